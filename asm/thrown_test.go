package asm_test

import (
	"encoding/binary"

	"carpetbag/api"
	"carpetbag/ops"
)

// dice tells numbers that look as if thrown, the same ones each time.
type dice uint64

func (d *dice) next(below int) int {
	*d = *d*6364136223846793005 + 1442695040888963407
	return int(uint64(*d)>>33) % below
}

// oneOf is an item of a list.
func oneOf[T any](d *dice, l ...T) T { return l[d.next(len(l))] }

// thrownIns is an instruction of a row of n.
func thrownIns(d *dice, n int) api.Ins {
	op := byte(0)
	for {
		if op = byte(d.next(256)); ops.Form(op) != 0 {
			break
		}
	}
	if d.next(3) == 0 {
		op = oneOf(d, 18, 18, 20, 187, 189, 192, 193, fieldOps[d.next(4)], methodOps[d.next(2)])
	}
	x := insOf(op)
	switch ops.Form(op) {
	case api.FormLocal:
		x.N = int64(d.next(256))
	case api.FormByte:
		x.N = int64(d.next(256) - 128)
	case api.FormShort:
		x.N = int64(d.next(65536) - 32768)
	case api.FormInc:
		x.N, x.M = int64(d.next(256)), d.next(256)-128
	case api.FormArray:
		x.N = oneOf[int64](d, 8, 10)
	case api.FormBranch:
		x.N = int64(d.next(n))
	}
	thrownNames(d, &x)
	return x
}

// thrownNames has what an instruction has of a pool be some other.
func thrownNames(d *dice, x *api.Ins) {
	switch ops.Form(x.Op) {
	case api.FormConst, api.FormWide:
	default:
		return
	}
	switch {
	case x.Op == opLdc && d.next(2) == 0:
		*x = api.Ins{Op: opLdc, Desc: "S", Text: oneOf(d, "", "a/B", "I", "Code", "\xc0\x80", "[I")}
	case x.Desc != "" && x.Class == "":
		x.N = oneOf[int64](d, -1, 0, 1, 1<<31-1, -1<<31)
	case x.Name != "" && x.Desc == "J":
		x.Class, x.Name, x.Desc = thrownClass(d), thrownName(d), oneOf(d, "I", "J", "[I", "LA;", "[[Lb/c;")
	case x.Name != "":
		x.Class, x.Name, x.Desc = thrownClass(d), thrownName(d), oneOf(d, "()V", "(I)I", "([BLb/c;)[I")
	case x.Op == opNew:
		x.Class = thrownClass(d)
	default:
		x.Class = oneOf(d, "A", "b/c", "I", "[I", "[LA;", "[[Lb/c;")
	}
}

func thrownName(d *dice) string  { return oneOf(d, "f", "A", "run", "I", "Code") }
func thrownClass(d *dice) string { return oneOf(d, "A", "b/c", "I", "Code", "run") }

func thrownTypes(d *dice) []string {
	var l []string
	for range d.next(5) {
		l = append(l, oneOf(d, "T", "I", "J", "N", "LA;", "Lb/c;", "[I", "[LA;", "LI;"))
	}
	return l
}

// thrownUnit is a unit that a class has.
func thrownUnit(d *dice) api.Unit {
	u := api.Unit{Name: thrownClass(d), Super: oneOf(d, "", thrownClass(d))}
	for range d.next(3) {
		u.Fields = append(u.Fields, api.Field{Static: d.next(2) == 0, Name: thrownName(d), Desc: oneOf(d, "I", "J", "[B", "LA;")})
	}
	for range d.next(3) {
		m := api.Method{Static: d.next(2) == 0, Name: thrownName(d), Desc: oneOf(d, "()V", "(I)I", "(J)[I"), Stack: d.next(65), Locals: d.next(65)}
		n := 1 + d.next(8)
		for range n {
			m.Code = append(m.Code, thrownIns(d, n))
		}
		for range d.next(3) {
			m.Traps = append(m.Traps, api.Trap{From: d.next(n), To: d.next(n + 1), At: d.next(n), Class: oneOf(d, "", thrownClass(d))})
		}
		for range d.next(3) {
			m.Maps = append(m.Maps, api.Map{At: d.next(n), Locals: thrownTypes(d), Stack: thrownTypes(d)})
		}
		u.Methods = append(u.Methods, m)
	}
	return u
}

// loose lays a pool in any order; some constants stand there more than once.
type loose struct {
	d *dice
	l []api.Const
}

func (p *loose) put(c api.Const) int {
	for at, x := range p.l {
		if at > 0 && x == c && p.d.next(3) > 0 {
			return at
		}
	}
	p.l = append(p.l, c)
	if c.Tag == 5 {
		p.l = append(p.l, api.Const{})
		return len(p.l) - 2
	}
	return len(p.l) - 1
}

func (p *loose) text(s string) int  { return p.put(api.Const{Tag: 1, S: s}) }
func (p *loose) class(s string) int { return p.put(api.Const{Tag: 7, A: p.text(s)}) }

func (p *loose) classOrNone(s string) int {
	if s == "" {
		return 0
	}
	return p.class(s)
}

// constant is the place of what an instruction has, 0 if it has none.
func (p *loose) constant(x api.Ins) int {
	switch {
	case x.Op == opLdc && x.Desc == "I":
		return p.put(api.Const{Tag: 3, N: x.N})
	case x.Op == opLdc:
		return p.put(api.Const{Tag: 8, A: p.text(x.Text)})
	case x.Op == opLdc2:
		return p.put(api.Const{Tag: 5, N: x.N})
	case x.Name != "":
		tag := 9
		if x.Desc[0] == '(' {
			tag = 10
		}
		return p.put(api.Const{Tag: tag, A: p.class(x.Class), B: p.put(api.Const{Tag: 12, A: p.text(x.Name), B: p.text(x.Desc)})})
	case x.Class != "":
		return p.class(x.Class)
	}
	return 0
}

func (p *loose) code(l []api.Ins) (code []byte, starts []int) {
	size := 0
	for _, x := range l {
		starts = append(starts, size)
		size += ops.Len(x.Op)
	}
	for i, x := range l {
		code = append(code, x.Op)
		n := int(x.N)
		switch ops.Form(x.Op) {
		case api.FormLocal, api.FormByte, api.FormArray:
			code = append(code, byte(n))
		case api.FormConst:
			code = append(code, byte(p.constant(x)))
		case api.FormShort:
			code = binary.BigEndian.AppendUint16(code, uint16(n))
		case api.FormWide:
			code = binary.BigEndian.AppendUint16(code, uint16(p.constant(x)))
		case api.FormBranch:
			code = binary.BigEndian.AppendUint16(code, uint16(starts[n]-starts[i]))
		case api.FormInc:
			code = append(code, byte(n), byte(x.M))
		}
	}
	return code, append(starts, size)
}

func (p *loose) slots(l []string) []api.Slot {
	var out []api.Slot
	for _, s := range l {
		switch s[0] {
		case '[':
			out = append(out, api.Slot{Tag: 7, A: p.class(s)})
		case 'L':
			out = append(out, api.Slot{Tag: 7, A: p.class(s[1 : len(s)-1])})
		default:
			out = append(out, api.Slot{Tag: map[string]int{"T": 0, "I": 1, "J": 4, "N": 5}[s]})
		}
	}
	return out
}

// thrownFile is one of a unit's classes.
func thrownFile(d *dice, u api.Unit) api.File {
	p := loose{d, []api.Const{{}}}
	for range d.next(9) {
		// Nobody asks for these, be they names or none.
		p.put(oneOf(d, api.Const{Tag: 1, S: oneOf(d, "<none>", "Code", "A", "")}, api.Const{Tag: 3, N: 5}, api.Const{Tag: 5, N: 6}))
	}
	flags := map[bool]int{true: 8}
	var f api.File
	for _, m := range u.Methods {
		code, starts := p.code(m.Code)
		n := api.FileMethod{Flags: flags[m.Static], Name: p.text(m.Name), Desc: p.text(m.Desc), Stack: m.Stack, Locals: m.Locals, Code: code}
		for _, x := range m.Traps {
			n.Traps = append(n.Traps, api.FileTrap{From: starts[x.From], To: starts[x.To], At: starts[x.At], Class: p.classOrNone(x.Class)})
		}
		for _, x := range m.Maps {
			n.Maps = append(n.Maps, api.FileMap{At: starts[x.At], Locals: p.slots(x.Locals), Stack: p.slots(x.Stack)})
		}
		f.Methods = append(f.Methods, n)
	}
	for _, x := range u.Fields {
		f.Fields = append(f.Fields, api.FileField{Flags: flags[x.Static], Name: p.text(x.Name), Desc: p.text(x.Desc)})
	}
	f.This, f.Super = p.class(u.Name), p.classOrNone(u.Super)
	p.text("Code")
	p.text("StackMap")
	p.put(api.Const{Tag: 7, A: p.text("<none>")})
	f.Pool = p.l
	return f
}
