package verify_test

import (
	"slices"
	"testing"

	"carpetbag/api"
	"carpetbag/hier"
	"carpetbag/types"
	"carpetbag/verify"
)

// P19.1, of any methods, and P19.2.

// thrown is a method that grows instruction by instruction, most of which can be typed.
type thrown struct {
	d      *dice
	w      *hier.World
	m      api.Method
	f      api.Frame   // what comes
	behind []api.Frame // of each instruction
}

// loosened tells a frame's types, some of them by ones for which they go.
func loosened(d *dice, l []string) []string {
	var out []string
	for _, s := range l {
		loose := oneOf(d, s, s, s, "T")
		if isRef(s) {
			loose = oneOf(d, s, s, s, "LObject;", "T")
		}
		switch {
		case s == "-":
		case s == "J" && loose == "T":
			out = append(out, "T", "T")
		case s == "N":
			out = append(out, oneOf(d, "N", "N", "LA;", "[I", "T"))
		default:
			out = append(out, loose)
		}
	}
	return out
}

// mark lays a map at the next instruction.
func (g *thrown) mark(l, stack []string) {
	x := api.Map{At: len(g.m.Code), Locals: loosened(g.d, l), Stack: loosened(g.d, stack)}
	if g.d.next(3) == 0 {
		x.Locals = nil
	}
	if f, e := types.OfMap(g.w, g.m, x); e == api.OK {
		g.f = f
	}
	g.m.Maps = append(g.m.Maps, x)
}

// lay has one more instruction.
func (g *thrown) lay(x api.Ins) {
	f, ok := modelStep(g.w, g.m, g.f, x)
	if ok {
		g.f = f
	}
	g.m.Code = append(g.m.Code, x)
	g.behind = append(g.behind, f)
}

// can is an instruction that can be typed here, OpNop if none is found; now and then one that takes much, for which a stack seldom has all.
func (g *thrown) can(l []api.Ins) api.Ins {
	var x api.Ins
	most := -1
	greedy := g.d.next(3) > 0
	for range 30 {
		y := oneOf(g.d, l...)
		if slices.Contains([]byte{21, 22, 25, 54, 55, 58, 132}, y.Op) {
			y.N = int64(g.d.next(g.m.Locals))
		}
		if _, ok := modelStep(g.w, g.m, g.f, y); !ok {
			continue
		}
		if n := len(types.Expand(modelTakes(g.m, y))); n > most {
			x, most = y, n
		}
		if !greedy {
			break
		}
	}
	return x
}

// end is what nothing goes on behind.
func (g *thrown) end() {
	var l []api.Ins
	for _, op := range []byte{api.OpIreturn, api.OpLreturn, api.OpAreturn, api.OpReturn, api.OpAthrow} {
		l = append(l, at(op, 0))
	}
	x := g.can(l)
	if x.Op == api.OpNop {
		g.lay(at(api.OpNull, 0))
		x = at(api.OpAthrow, 0)
	}
	g.lay(x)
}

// branch has all branches go to where they may: should there be no such place, to one behind all else.
func (g *thrown) branch() {
	for i, x := range slices.Clone(g.m.Code) {
		if !slices.Contains(branches(), x.Op) {
			continue
		}
		var l []int
		for _, to := range g.m.Maps {
			if told, e := types.OfMap(g.w, g.m, to); e == api.OK && types.Goes(g.w, g.behind[i], told) {
				l = append(l, to.At)
			}
		}
		if len(l) == 0 {
			l = append(l, len(g.m.Code))
			g.mark(g.behind[i].Locals, g.behind[i].Stack)
			g.end()
		}
		g.m.Code[i].N = int64(oneOf(g.d, l...))
	}
}

// handler lays one, and traps that lead to it.
func (g *thrown) handler() {
	class := oneOf(g.d, "LThrowable;", "LThrowable;", "LMathFault;", "LObject;")
	f, _ := types.Start("A", g.m)
	n := len(g.m.Code)
	g.mark(f.Locals, []string{class})
	g.end()
	for range 1 + g.d.next(2) {
		from := g.d.next(n)
		trap := api.Trap{From: from, To: from + 1 + g.d.next(n-from), At: n, Class: oneOf(g.d, "", "Throwable", "MathFault", "Own")}
		g.m.Traps = append(g.m.Traps, trap)
	}
}

// instructions are those of the table, as often as they aren't ends.
func instructions() []api.Ins {
	var l []api.Ins
	for _, r := range tableRows() {
		l = append(l, r.x)
		if !slices.Contains(ends(), r.x.Op) {
			l = append(l, r.x, r.x, r.x)
		}
	}
	return l
}

// thrownMethod is one of the class A.
func thrownMethod(d *dice, w *hier.World, l []api.Ins) api.Method {
	g := thrown{d: d, w: w, m: api.Method{Static: d.next(2) == 0, Name: "m", Desc: oneOf(d, "()V", "(I)I", "(JI)J", "(LA;[I)LB;", "([LA;)[I"), Stack: 1 + d.next(10), Locals: 3 + d.next(4)}}
	g.f, _ = types.Start("A", g.m)
	first := g.f
	for range 1 + d.next(20) {
		n := len(g.m.Code)
		switch {
		case n > 0 && slices.Contains(ends(), g.m.Code[n-1].Op):
			g.mark(first.Locals, oneOf(d, nil, nil, []string{"I"}, []string{"LB;"}))
		case d.next(5) == 0:
			g.mark(g.f.Locals, g.f.Stack)
		}
		g.lay(g.can(l))
	}
	if n := len(g.m.Code); slices.Contains(ends(), g.m.Code[n-1].Op) {
		g.mark(first.Locals, nil)
	}
	g.end()
	if d.next(2) == 0 {
		g.handler()
	}
	g.branch()
	return g.m
}

// spoilt is a method in which something is changed, that may make it wrong.
func spoilt(d *dice, m api.Method, l []api.Ins) api.Method {
	n := len(m.Code)
	m.Code, m.Maps, m.Traps = slices.Clone(m.Code), slices.Clone(m.Maps), slices.Clone(m.Traps)
	types := []string{"T", "I", "J", "N", "LA;", "LB;", "LOwn;", "LThrowable;", "[I", "LX;"}
	i := d.next(n)
	switch d.next(10) {
	case 0:
		m.Code[i] = oneOf(d, l...)
	case 1:
		m.Code[i].Op = oneOf(d, operations()...)
	case 2:
		m.Code[i].N = int64(d.next(n + 1))
	case 3:
		m.Stack = d.next(m.Stack + 1)
	case 4:
		m.Locals = d.next(m.Locals + 1)
	case 5:
		m.Desc = oneOf(d, "()V", "(I)I", "(J)J", "(LA;)LA;")
	case 6, 7:
		if len(m.Maps) > 0 {
			x := &m.Maps[d.next(len(m.Maps))]
			k := d.next(3)
			x.Locals = append(slices.Clone(x.Locals[:min(k, len(x.Locals))]), oneOf(d, types...))
		}
	case 8:
		if len(m.Maps) > 0 {
			x := &m.Maps[d.next(len(m.Maps))]
			x.Stack = append(slices.Clone(x.Stack[:d.next(len(x.Stack)+1)]), oneOf(d, types...))
			x.At += d.next(2)
		}
	case 9:
		for i := range m.Traps {
			x := oneOf(d, api.Trap{To: n, At: m.Traps[i].At}, api.Trap{From: i, To: i + 1, At: m.Traps[i].At, Class: oneOf(d, "A", "X", "Own", "")})
			m.Traps = append(m.Traps, x)
		}
	}
	return m
}

func TestThrownMethods(t *testing.T) {
	d := dice(1)
	w, l := world(t), instructions()
	got := map[api.Errno]int{}
	ops := map[byte]int{}
	typed, traps := 0, 0
	for range 6000 {
		m := thrownMethod(&d, w, l)
		e := asks(t, w, "A", m)
		if e == api.OK {
			typed++
			for _, x := range m.Code {
				ops[x.Op]++
			}
			traps += len(m.Traps)
		}
		m = spoilt(&d, m, l)
		got[asks(t, w, oneOf(&d, "A", "A", "B", "X"), m)]++
		asks(t, nil, "A", m)
	}
	if typed < 3000 || got[api.OK] < 1000 || got[api.ErrType] < 1000 || got[api.ErrForm] < 100 || got[api.ErrRange] < 50 || got[api.ErrMissing] < 100 {
		t.Errorf("but %d, %v", typed, got)
	}
	for _, op := range operations() {
		if ops[op] == 0 {
			t.Errorf("but %d of %d in what can be typed", ops[op], op)
		}
	}
	if traps < 1000 {
		t.Errorf("but %d traps", traps)
	}
}

// TestThrownSteps asks any instruction of any frame.
func TestThrownSteps(t *testing.T) {
	d := dice(2)
	got := map[bool]int{}
	rows, all := tableRows(), worlds(t)
	places := append(kinds(), "L", "[", "[[", "[J", "[L", "L;", "LA", "NN", "B", "[V", "LA;LB;", "()V")
	for range 200000 {
		r := oneOf(&d, rows...)
		x := r.x
		f := api.Frame{Locals: list("I,J,-,T,N,LA;,[I"), Stack: list(r.before)}
		for range d.next(3) {
			switch k := d.next(len(f.Stack) + 1); d.next(5) {
			case 0:
				f.Stack = slices.Insert(f.Stack, k, oneOf(&d, places...))
			case 1:
				f.Stack = f.Stack[:k]
			case 2:
				f.Stack = append(f.Stack[:k:k], oneOf(&d, places...))
			case 3:
				x.Op = byte(d.next(256))
			case 4:
				f.Locals[d.next(7)] = oneOf(&d, places...)
			}
		}
		m := api.Method{Desc: r.desc, Stack: d.next(7)}
		got[steps(t, oneOf(&d, all...), m, f, x)]++
	}
	if got[true] < 50000 || got[false] < 50000 {
		t.Errorf("but %v", got)
	}
}

// TestMoreStackAndLocals is P19.2.
func TestMoreStackAndLocals(t *testing.T) {
	d := dice(3)
	w, l := world(t), instructions()
	got := 0
	for range 3000 {
		m := thrownMethod(&d, w, l)
		was, e := verify.Frames(w, "A", m)
		if e != api.OK {
			continue
		}
		got++
		more := m
		more.Stack += oneOf(&d, 0, 1, 2, 64-m.Stack)
		more.Locals += oneOf(&d, 0, 1, 2, 64-m.Locals)
		free := slices.Repeat([]string{"T"}, more.Locals-m.Locals)
		for i := range was {
			was[i].Locals = append(was[i].Locals, free...)
		}
		answers(t, w, "A", more, api.OK, was...)
	}
	if got < 1500 {
		t.Errorf("but %d can be typed", got)
	}
	// And with less it can't be in the end.
	m := loop()
	for stack := range 65 {
		for locals := range 65 {
			m.Stack, m.Locals = stack, locals
			e := verify.Method(w, "A", m)
			if (e == api.OK) != (stack >= 2 && locals >= 2) {
				t.Errorf("%d, %d: %d", stack, locals, e)
			}
		}
	}
}
