package asm_test

import (
	"math"
	"regexp"
	"slices"
	"strings"

	"carpetbag/api"
	"carpetbag/klass"
	"carpetbag/ops"
	"carpetbag/utf"
)

// The words of the chapter, and of layer 12.
var (
	memberWords = regexp.MustCompile(`^[A-Za-z0-9_$]{1,64}$`)
	classWords  = regexp.MustCompile(`^[A-Za-z0-9_$]+(/[A-Za-z0-9_$]+)*$`)
	typeWords   = regexp.MustCompile(`^(\[*)(?:I|J|B|L([^;]*);)`)
)

func modelName(s string) bool  { return memberWords.MatchString(s) }
func modelClass(s string) bool { return len(s) <= 64 && classWords.MatchString(s) }

// modelCut is how many bytes the type has with which a text begins, 0 if there is none.
func modelCut(s string) int {
	m := typeWords.FindStringSubmatch(s)
	if m == nil || len(m[1]) > 8 {
		return 0
	}
	switch kind := m[0][len(m[1])]; {
	case kind == 'L' && !modelClass(m[2]), kind == 'J' && m[1] != "", kind == 'B' && m[1] == "":
		return 0
	}
	return len(m[0])
}

func modelType(s string) bool  { return s != "" && modelCut(s) == len(s) }
func modelArray(s string) bool { return modelType(s) && s[0] == '[' }

func modelMethod(s string) bool {
	if !strings.HasPrefix(s, "(") {
		return false
	}
	s = s[1:]
	for range 16 {
		s = s[modelCut(s):]
	}
	return strings.HasPrefix(s, ")") && (s[1:] == "V" || modelType(s[1:]))
}

func modelClassOrArray(s string) bool { return modelClass(s) || modelArray(s) }
func modelClassOrNone(s string) bool  { return s == "" || modelClass(s) }

// modelText asks whether a text may stand in a pool.
func modelText(s string) bool {
	_, e := utf.Len([]byte(s))
	return e == api.OK && len(s) <= 65535
}

// The operations of each kind that has something of a pool.
var (
	fieldOps  = []byte{178, 179, 180, 181}
	methodOps = []byte{182, 184}
	itemOps   = []byte{189, 192, 193}
)

const (
	opLdc  = 18
	opLdc2 = 20
	opNew  = 187
)

// modelIns asks whether an instruction of a row of n may be.
func modelIns(x api.Ins, n int) bool {
	small := x.N >= math.MinInt16 && x.N <= math.MaxUint16
	rest := x
	rest.Op, rest.N = 0, 0
	switch ops.Form(x.Op) {
	case api.FormNone:
		return x.N == 0 && rest == api.Ins{}
	case api.FormLocal:
		return small && x.N == int64(uint8(x.N)) && rest == api.Ins{}
	case api.FormByte:
		return x.N == int64(int8(x.N)) && rest == api.Ins{}
	case api.FormShort:
		return x.N == int64(int16(x.N)) && rest == api.Ins{}
	case api.FormInc:
		return small && x.N == int64(uint8(x.N)) && x.M == int(int8(x.M)) && rest == api.Ins{M: x.M}
	case api.FormArray:
		return (x.N == 8 || x.N == 10) && rest == api.Ins{}
	case api.FormBranch:
		return 0 <= x.N && x.N < int64(n) && rest == api.Ins{}
	case api.FormConst, api.FormWide:
		return modelConstant(x)
	}
	return false
}

// modelConstant asks so of an instruction that has something of a pool.
func modelConstant(x api.Ins) bool {
	switch {
	case x.Op == opLdc && x.Desc == "I":
		return x == api.Ins{Op: x.Op, N: int64(int32(x.N)), Desc: "I"}
	case x.Op == opLdc:
		return x == api.Ins{Op: x.Op, Desc: "S", Text: x.Text} && modelText(x.Text)
	case x.Op == opLdc2:
		return x == api.Ins{Op: x.Op, N: x.N, Desc: "J"}
	case x.Op == opNew:
		return x == api.Ins{Op: x.Op, Class: x.Class} && modelClass(x.Class)
	case slices.Contains(itemOps, x.Op):
		return x == api.Ins{Op: x.Op, Class: x.Class} && modelClassOrArray(x.Class)
	}
	isDesc := modelType
	if slices.Contains(methodOps, x.Op) {
		isDesc = modelMethod
	}
	return x == api.Ins{Op: x.Op, Class: x.Class, Name: x.Name, Desc: x.Desc} && modelClass(x.Class) && modelName(x.Name) && isDesc(x.Desc)
}

// modelMapType asks whether a type of a map may be.
func modelMapType(s string) bool {
	return slices.Contains([]string{"T", "I", "J", "N"}, s) || modelArray(s) || modelType(s) && s[0] == 'L'
}

func modelTypes(l []string) bool {
	return len(l) <= 64 && !slices.ContainsFunc(l, func(s string) bool { return !modelMapType(s) })
}

func modelTheMethod(m api.Method) bool {
	n := len(m.Code)
	isIn := func(at int) bool { return 0 <= at && at < n }
	size := 0
	for _, x := range m.Code {
		if !modelIns(x, n) {
			return false
		}
		size += ops.Len(x.Op)
	}
	for _, x := range m.Traps {
		if !isIn(x.From) || !isIn(x.To) && x.To != n || !isIn(x.At) || !modelClassOrNone(x.Class) {
			return false
		}
	}
	for _, x := range m.Maps {
		if !isIn(x.At) || !modelTypes(x.Locals) || !modelTypes(x.Stack) {
			return false
		}
	}
	return modelName(m.Name) && modelMethod(m.Desc) && 0 <= m.Stack && m.Stack <= 64 && 0 <= m.Locals && m.Locals <= 64 &&
		1 <= size && size <= 4096 && len(m.Traps) <= 255 && len(m.Maps) <= 255
}

// modelUnit asks whether there is a class whose unit u is.
func modelUnit(u api.Unit) bool {
	if !modelClass(u.Name) || !modelClassOrNone(u.Super) || len(u.Fields) > 64 || len(u.Methods) > 64 {
		return false
	}
	for _, d := range u.Fields {
		if !modelName(d.Name) || !modelType(d.Desc) {
			return false
		}
	}
	for _, m := range u.Methods {
		if !modelTheMethod(m) {
			return false
		}
	}
	places, literals := modelCount(u)
	return places <= 1024 && literals <= 255
}

// modelCount is how many places the least pool of a unit has, and how many of them OpLdc has to tell in a byte.
func modelCount(u api.Unit) (places, literals int) {
	texts := map[string]bool{}
	longs := map[int64]bool{}
	ldc := map[api.Ins]bool{}
	others := map[[5]string]bool{} // the kind of constant ahead of its texts
	text := func(s ...string) {
		for _, s := range s {
			texts[s] = true
		}
	}
	class := func(s string) {
		if s != "" {
			text(s)
			others[[5]string{"class", s}] = true
		}
	}
	class(u.Name)
	class(u.Super)
	for _, d := range u.Fields {
		text(d.Name, d.Desc)
	}
	for _, m := range u.Methods {
		text("Code", m.Name, m.Desc)
		for _, x := range m.Code {
			class(x.Class)
			switch {
			case x.Op == opLdc:
				ldc[x] = true
				if x.Desc == "S" {
					text(x.Text)
				}
			case x.Op == opLdc2:
				longs[x.N] = true
			case x.Name != "":
				kind := "field"
				if slices.Contains(methodOps, x.Op) {
					kind = "method"
				}
				text(x.Name, x.Desc)
				others[[5]string{"name", x.Name, x.Desc}] = true
				others[[5]string{kind, x.Class, x.Name, x.Desc}] = true
			}
		}
		for _, x := range m.Traps {
			class(x.Class)
		}
		for _, x := range m.Maps {
			text("StackMap")
			for _, s := range slices.Concat(x.Locals, x.Stack) {
				if s[0] == 'L' {
					class(s[1 : len(s)-1])
				} else if s[0] == '[' {
					class(s)
				}
			}
		}
	}
	return 1 + len(texts) + 2*len(longs) + len(ldc) + len(others), len(ldc)
}

// tells is a class's constants by their places, and what is wrong with them.
type tells struct {
	l    []api.Const
	errs []api.Errno
}

func (c *tells) refuse(e api.Errno) { c.errs = append(c.errs, e) }

func (c *tells) at(at, tag int) api.Const {
	if at < 1 || at >= len(c.l) || c.l[at].Tag != tag {
		c.refuse(api.ErrForm)
		return api.Const{}
	}
	return c.l[at]
}

func (c *tells) text(at int, is func(string) bool) string {
	s := c.at(at, 1).S
	if !is(s) {
		c.refuse(api.ErrForm)
	}
	return s
}

func (c *tells) class(at int, is func(string) bool) string { return c.text(c.at(at, 7).A, is) }

func (c *tells) classOrNone(at int) string {
	if at == 0 {
		return ""
	}
	return c.class(at, modelClass)
}

func (c *tells) ins(r api.Raw) api.Ins {
	x := api.Ins{Op: r.Op}
	member := func(tag int, is func(string) bool) {
		m := c.at(r.A, tag)
		n := c.at(m.B, 12)
		x.Class, x.Name, x.Desc = c.class(m.A, modelClass), c.text(n.A, modelName), c.text(n.B, is)
	}
	switch {
	case r.Op == opLdc:
		if r.A < len(c.l) && c.l[r.A].Tag == 8 {
			x.Desc, x.Text = "S", c.text(c.l[r.A].A, modelText)
		} else {
			x.Desc, x.N = "I", c.at(r.A, 3).N
		}
	case r.Op == opLdc2:
		x.Desc, x.N = "J", c.at(r.A, 5).N
	case r.Op == opNew:
		x.Class = c.class(r.A, modelClass)
	case slices.Contains(itemOps, r.Op):
		x.Class = c.class(r.A, modelClassOrArray)
	case slices.Contains(fieldOps, r.Op):
		member(9, modelType)
	case slices.Contains(methodOps, r.Op):
		member(10, modelMethod)
	default:
		x.N, x.M = int64(r.A), r.B
	}
	return x
}

func (c *tells) types(l []api.Slot) []string {
	var out []string
	for _, s := range l {
		t := map[int]string{0: "T", 1: "I", 4: "J", 5: "N"}[s.Tag]
		if s.Tag == 7 {
			t = c.class(s.A, modelClassOrArray)
			if !strings.HasPrefix(t, "[") {
				t = "L" + t + ";"
			}
		}
		out = append(out, t)
	}
	return out
}

func (c *tells) method(m api.FileMethod) api.Method {
	raws, e := ops.Decode(m.Code)
	if e != api.OK {
		c.refuse(e)
	}
	n := api.Method{Static: m.Flags == 8, Name: c.text(m.Name, modelName), Desc: c.text(m.Desc, modelMethod), Stack: m.Stack, Locals: m.Locals}
	place := func(at int) int {
		i := slices.IndexFunc(raws, func(r api.Raw) bool { return r.At == at })
		if i < 0 {
			c.refuse(api.ErrRange)
		}
		return i
	}
	for _, r := range raws {
		x := c.ins(r)
		if ops.Form(r.Op) == api.FormBranch {
			x.N = int64(place(r.A))
		}
		n.Code = append(n.Code, x)
	}
	for _, t := range m.Traps {
		x := api.Trap{From: place(t.From), To: len(raws), At: place(t.At), Class: c.classOrNone(t.Class)}
		if t.To != len(m.Code) {
			x.To = place(t.To)
		}
		n.Traps = append(n.Traps, x)
	}
	for _, x := range m.Maps {
		n.Maps = append(n.Maps, api.Map{At: place(x.At), Locals: c.types(x.Locals), Stack: c.types(x.Stack)})
	}
	return n
}

// modelLift is a class's unit, or else the errors of which one has to be answered.
func modelLift(f api.File) (api.Unit, []api.Errno) {
	if e := klass.Check(f); e != api.OK {
		return api.Unit{}, []api.Errno{e}
	}
	c := tells{l: f.Pool}
	u := api.Unit{Name: c.class(f.This, modelClass), Super: c.classOrNone(f.Super)}
	for _, d := range f.Fields {
		u.Fields = append(u.Fields, api.Field{Static: d.Flags == 8, Name: c.text(d.Name, modelName), Desc: c.text(d.Desc, modelType)})
	}
	for _, m := range f.Methods {
		u.Methods = append(u.Methods, c.method(m))
	}
	if len(c.errs) > 0 {
		return api.Unit{}, c.errs
	}
	return u, nil
}
