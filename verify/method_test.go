package verify_test

import (
	"math"
	"slices"
	"strings"
	"testing"

	"carpetbag/api"
)

// P19.1: Method and Frames.

// mapAt is a map with locals and a stack, each told as a list.
func mapAt(at int, locals, stack string) api.Map {
	return api.Map{At: at, Locals: list(locals), Stack: list(stack)}
}

// loop adds its argument to 5 until that is 0: all of a method is asked here, a map, a branch forward and back.
func loop() api.Method {
	return api.Method{Static: true, Name: "m", Desc: "(I)I", Stack: 2, Locals: 2, Code: []api.Ins{
		{Op: api.OpIconst5},
		{Op: api.OpIstore, N: 1},
		{Op: api.OpIload},
		{Op: api.OpIfeq, N: 9},
		{Op: api.OpIload, N: 1},
		{Op: api.OpIload},
		{Op: api.OpIadd},
		{Op: api.OpIstore, N: 1},
		{Op: api.OpGoto, N: 2},
		{Op: api.OpIload, N: 1},
		{Op: api.OpIreturn},
	}, Maps: []api.Map{mapAt(2, "I,I", ""), mapAt(9, "I,I", "")}}
}

func TestFramesAheadOfEachInstruction(t *testing.T) {
	w := world(t)
	answers(t, w, "A", loop(), api.OK, frame("I,T", ""), frame("I,T", "I"), frame("I,I", ""), frame("I,I", "I"), frame("I,I", ""), frame("I,I", "I"), frame("I,I", "I,I"), frame("I,I", "I"), frame("I,I", ""), frame("I,I", ""), frame("I,I", "I"))
	// What stands in the maps counts, not what comes: a class, a null, nothing.
	m := api.Method{Desc: "(LB;J)V", Stack: 2, Locals: 5, Code: code(api.OpNull, api.OpNop, api.OpPop, api.OpReturn), Maps: []api.Map{mapAt(0, "LA;,LB;,J", ""), mapAt(1, "LObject;,LA;", "LB;"), mapAt(2, "T,LObject;", "LA;")}}
	answers(t, w, "B", m, api.OK, frame("LA;,LB;,J,-,T", ""), frame("LObject;,LA;,T,T,T", "LB;"), frame("T,LObject;,T,T,T", "LA;"), frame("T,LObject;,T,T,T", ""))
	m.Maps = nil
	answers(t, w, "B", m, api.OK, frame("LB;,LB;,J,-,T", ""), frame("LB;,LB;,J,-,T", "N"), frame("LB;,LB;,J,-,T", "N"), frame("LB;,LB;,J,-,T", ""))
	// Behind an end the map alone tells.
	m = api.Method{Static: true, Desc: "()J", Stack: 2, Locals: 1, Code: code(api.OpLconst0, api.OpLreturn, api.OpLreturn), Maps: []api.Map{mapAt(2, "LOwn;", "J")}}
	answers(t, w, "A", m, api.OK, frame("T", ""), frame("T", "J,-"), frame("LOwn;", "J,-"))
}

// TestErrorsOfCheckComeFirst has each error of a code's shape, in one that can't be typed either.
func TestErrorsOfCheckComeFirst(t *testing.T) {
	w := world(t)
	bad := func() api.Method {
		m := loop()
		m.Code[6] = api.Ins{Op: api.OpLadd}
		m.Maps[1].Stack = []string{"X"}
		m.Traps = []api.Trap{{From: 0, To: 3, At: 2, Class: "X"}}
		return m
	}
	answers(t, w, "A", bad(), api.ErrType)
	for wanted, changes := range map[api.Errno][]func(m *api.Method){
		api.ErrForm: {
			func(m *api.Method) { m.Code = nil }, func(m *api.Method) { m.Code[0].Op = 11 }, func(m *api.Method) { m.Stack = -1 }, func(m *api.Method) { m.Stack = 65 }, func(m *api.Method) { m.Locals = 65 },
			func(m *api.Method) { m.Locals = -1 }, func(m *api.Method) { m.Desc = "()" }, func(m *api.Method) { m.Code[1].N = 2 }, func(m *api.Method) { m.Code = m.Code[:10] }, func(m *api.Method) { m.Locals = math.MaxInt },
		},
		api.ErrRange: {
			func(m *api.Method) { m.Code[8].N = 11 }, func(m *api.Method) { m.Code[8].N = -1 }, func(m *api.Method) { m.Traps[0].To = 12 }, func(m *api.Method) { m.Traps[0].From = 3 }, func(m *api.Method) { m.Traps[0].At = 11 }, func(m *api.Method) { m.Maps[1].At = 2 }, func(m *api.Method) { m.Maps[1].At = 11 },
		},
		api.ErrMissing: {
			func(m *api.Method) { m.Maps = m.Maps[:1] }, func(m *api.Method) { m.Maps = m.Maps[1:] }, func(m *api.Method) { m.Code[8].N = 0 }, func(m *api.Method) { m.Traps[0].At = 3 }, func(m *api.Method) { m.Code[4].Op = api.OpAthrow },
		},
	} {
		for i, change := range changes {
			m := bad()
			change(&m)
			if e, _ := modelFrames(w, "A", m); e != nil {
				t.Errorf("change %d", i)
			}
			answers(t, w, "A", m, wanted)
			answers(t, nil, "A", m, wanted)
		}
	}
	answers(t, w, "A", api.Method{}, api.ErrForm)
	answers(t, nil, "", api.Method{}, api.ErrForm)
}

// TestArgumentsThatDontFit have a method not begin.
func TestArgumentsThatDontFit(t *testing.T) {
	w := world(t)
	for _, x := range []struct {
		desc   string
		static bool
		need   int
	}{{"()V", true, 0}, {"()V", false, 1}, {"(I)V", true, 1}, {"(J)V", true, 2}, {"(J)V", false, 3}, {"(LA;[IJ)V", false, 5}, {"(" + strings.Repeat("J", 16) + ")V", true, 32}} {
		m := api.Method{Static: x.static, Desc: x.desc, Code: code(api.OpReturn)}
		for m.Locals = range 65 {
			wanted := api.ErrType
			if m.Locals >= x.need {
				wanted = api.OK
			}
			if e := asks(t, w, "A", m); e != wanted {
				t.Errorf("%q of %d locals: %d", x.desc, m.Locals, e)
			}
		}
	}
}

// typed asks of a static method of no arguments whether it can be typed.
func typed(t *testing.T, wanted bool, m api.Method) {
	t.Helper()
	m.Static = true
	if m.Desc == "" {
		m.Desc = "()V"
	}
	e := asks(t, world(t), "A", m)
	if wanted && e != api.OK || !wanted && e != api.ErrType {
		t.Errorf("%+v: %d", m, e)
	}
}

// TestWhatComesAndTheMap has a map behind what pushes a type.
func TestWhatComesAndTheMap(t *testing.T) {
	for _, x := range []struct {
		push, told string
		ok         bool
	}{
		{"I", "I", true}, {"I", "T", true}, {"I", "N", false}, {"I", "J", false}, {"I", "", false}, {"I", "I,I", false}, {"I", "T,T", false},
		{"J", "J", true}, {"J", "T,T", true}, {"J", "T", false}, {"J", "I", false}, {"J", "I,I", false}, {"J", "", false},
		{"N", "N", true}, {"N", "LA;", true}, {"N", "[I", true}, {"N", "[[LB;", true}, {"N", "LX;", false}, {"N", "I", false}, {"N", "T", true}, {"N", "[J", false}, {"N", "-", false}, {"N", "A", false}, {"N", "1", false}, {"N", "V", false},
		{"LB;", "LB;", true}, {"LB;", "LA;", true}, {"LB;", "LObject;", true}, {"LB;", "Lx/C;", false}, {"LB;", "N", false}, {"LB;", "T", true}, {"LB;", "LOwn;", false},
	} {
		push := map[string]api.Ins{"I": at(api.OpBipush, 1), "J": at(api.OpLconst1, 0), "N": at(api.OpNull, 0), "LB;": of(api.OpNew, "B")}[x.push]
		typed(t, x.ok, api.Method{Stack: 4, Code: []api.Ins{push, {Op: api.OpReturn}}, Maps: []api.Map{mapAt(1, "", x.told)}})
		// In a local, too.
		store := map[string]byte{"I": api.OpIstore, "J": api.OpLstore, "N": api.OpAstore, "LB;": api.OpAstore}[x.push]
		n := len(list(strings.ReplaceAll(x.push, "J", "J,-")))
		ok := x.ok || x.told == ""
		if x.told == "I,I" || x.told == "T,T" || x.push != "J" && x.told == "J" {
			ok = n == 2 && x.told == "T,T"
		}
		if x.push == "J" && x.told == "T" {
			ok = true // what isn't told is "T"
		}
		typed(t, ok, api.Method{Stack: 4, Locals: n, Code: []api.Ins{push, {Op: store}, {Op: api.OpReturn}}, Maps: []api.Map{mapAt(2, x.told, "")}})
	}
}

// TestMapsThatMayNotBe refuse a method, whether something comes to them or not.
func TestMapsThatMayNotBe(t *testing.T) {
	for _, x := range []api.Map{mapAt(1, "LX;", ""), mapAt(1, "", "LX;"), mapAt(1, "-", ""), mapAt(1, "A", ""), mapAt(1, "[J", ""), mapAt(1, "T,T,T", ""), mapAt(1, "T,J", ""), mapAt(1, "", "T,T,T"), mapAt(1, "", "T,J"), mapAt(1, "", "V"), mapAt(1, "[[LX;", ""), {At: 1, Stack: []string{""}}} {
		typed(t, false, api.Method{Stack: 2, Locals: 2, Code: code(api.OpReturn, api.OpReturn), Maps: []api.Map{x}})
		typed(t, false, api.Method{Stack: 2, Locals: 2, Code: code(api.OpNop, api.OpReturn), Maps: []api.Map{x}})
		x.At = 0
		typed(t, false, api.Method{Stack: 2, Locals: 2, Code: code(api.OpNop, api.OpReturn), Maps: []api.Map{x}})
	}
	typed(t, false, api.Method{Code: code(api.OpReturn), Maps: []api.Map{mapAt(0, "T", "")}})
	typed(t, false, api.Method{Code: code(api.OpReturn), Maps: []api.Map{mapAt(0, "", "T")}})
	typed(t, true, api.Method{Code: code(api.OpReturn), Maps: []api.Map{mapAt(0, "", "")}})
	typed(t, true, api.Method{Stack: 2, Locals: 2, Code: code(api.OpReturn, api.OpReturn), Maps: []api.Map{mapAt(1, "J", "T,LOwn;")}})
	typed(t, false, api.Method{Stack: 2, Locals: 2, Code: code(api.OpNop, api.OpReturn), Maps: []api.Map{mapAt(1, "J", "")}})
}

// TestTheMapCounts has what came be forgotten behind a map.
func TestTheMapCounts(t *testing.T) {
	c := []api.Ins{{Op: api.OpIconst5}, {Op: api.OpNop}, {Op: api.OpPop}, {Op: api.OpReturn}}
	typed(t, true, api.Method{Stack: 1, Code: c})
	typed(t, true, api.Method{Stack: 1, Code: c, Maps: []api.Map{mapAt(1, "", "I")}})
	typed(t, false, api.Method{Stack: 1, Code: c, Maps: []api.Map{mapAt(1, "", "T")}})
	// At the beginning.
	for locals, ok := range map[string]bool{"I": true, "T": false, "": false, "N": false, "J": false} {
		m := api.Method{Desc: "(I)I", Stack: 1, Locals: 1, Code: code(api.OpIload, api.OpIreturn), Maps: []api.Map{mapAt(0, locals, "")}}
		typed(t, ok, m)
		m = api.Method{Desc: "(I)V", Stack: 1, Locals: 1, Code: code(api.OpReturn), Maps: []api.Map{mapAt(0, locals, "")}}
		typed(t, locals != "N" && locals != "J", m)
	}
	typed(t, false, api.Method{Stack: 1, Code: code(api.OpReturn), Maps: []api.Map{mapAt(0, "", "I")}})
}

// TestBehindAnEndNothingComes has a map that what stood ahead of the end doesn't go for.
func TestBehindAnEndNothingComes(t *testing.T) {
	for op, x := range map[byte][2]string{api.OpIreturn: {"I", "()I"}, api.OpLreturn: {"J", "()J"}, api.OpAreturn: {"N", "()LA;"}, api.OpReturn: {"", "()V"}, api.OpAthrow: {"N", "()V"}} {
		push := map[string]byte{"I": api.OpIconst5, "J": api.OpLconst0, "N": api.OpNull, "": api.OpNop}[x[0]]
		for _, told := range []string{x[0], "LOwn;", "I,I"} {
			m := api.Method{Desc: x[1], Stack: 2, Locals: 2, Code: code(push, op, op), Maps: []api.Map{mapAt(2, "I,I", told)}}
			typed(t, told == x[0] || x[0] == "" || op == api.OpAthrow && told == "LOwn;" || op == api.OpIreturn && told == "I,I", m)
		}
	}
	// Of a branch that always goes nothing comes behind it either; what stands there has to be typed all the same.
	for locals, ok := range map[string]bool{"I": true, "N": false, "": false} {
		m := api.Method{Stack: 1, Locals: 1, Code: []api.Ins{{Op: api.OpGoto, N: 3}, {Op: api.OpIload}, {Op: api.OpPop}, {Op: api.OpReturn}}, Maps: []api.Map{mapAt(1, locals, ""), mapAt(3, "", "")}}
		typed(t, ok, m)
	}
}

// TestBranches go forward, back, and to themselves.
func TestBranches(t *testing.T) {
	// Of each operation what is left behind it goes for the map, what stood ahead of it doesn't.
	pushes := map[byte][]byte{}
	for _, op := range branches() {
		switch {
		case op == api.OpGoto:
			pushes[op] = nil
		case op <= api.OpIfle:
			pushes[op] = []byte{api.OpIconst5}
		case op <= api.OpIcmple:
			pushes[op] = []byte{api.OpIconst5, api.OpIconst5}
		case op <= api.OpAcmpne:
			pushes[op] = []byte{api.OpNull, api.OpNull}
		default:
			pushes[op] = []byte{api.OpNull}
		}
		c := code(slices.Concat([]byte{api.OpLconst0}, pushes[op], []byte{op, api.OpReturn, api.OpReturn})...)
		n := len(c)
		c[n-3].N = int64(n - 1)
		for stack, ok := range map[string]bool{"J": true, "T,T": true, "": false, "I": false, "J,I": false, "J,N": false, "J,I,I": false, "J,N,N": false, "I,I": false} {
			typed(t, ok, api.Method{Stack: 4, Code: c, Maps: []api.Map{mapAt(n-2, "", "J"), mapAt(n-1, "", stack)}})
			// To just behind it: what doesn't go on there comes there by the branch.
			c := slices.Clone(c)
			c[n-3].N = int64(n - 2)
			typed(t, ok, api.Method{Stack: 4, Code: c, Maps: []api.Map{mapAt(n-2, "", stack), mapAt(n-1, "", "I")}})
		}
	}
	// Back.
	for locals, ok := range map[string]bool{"I": true, "T": true, "": true, "N": false, "J": false} {
		m := api.Method{Desc: "(I)V", Stack: 1, Locals: 2, Code: []api.Ins{{Op: api.OpNop}, {Op: api.OpGoto}}, Maps: []api.Map{mapAt(0, locals, "")}}
		typed(t, ok, m)
	}
	back := loop()
	back.Code[7] = at(api.OpIstore, 0)
	typed(t, true, back)
	back.Code[6] = at(api.OpI2l, 0)
	typed(t, false, back)
	back = loop()
	back.Code[6], back.Code[7] = api.Ins{Op: api.OpPop}, api.Ins{Op: api.OpPop}
	typed(t, true, back)
	back.Code[7] = api.Ins{Op: api.OpNop} // it comes back with one place more
	typed(t, false, back)
	// To itself.
	typed(t, true, api.Method{Code: code(api.OpGoto), Maps: []api.Map{mapAt(0, "", "")}})
	typed(t, true, api.Method{Stack: 1, Code: []api.Ins{{Op: api.OpNull}, at(api.OpGoto, 1)}, Maps: []api.Map{mapAt(1, "", "LA;")}})
	for _, op := range []byte{api.OpIfnull, api.OpIfnonnull} {
		typed(t, false, api.Method{Stack: 2, Code: []api.Ins{{Op: api.OpNull}, {Op: api.OpNull}, at(op, 2), {Op: api.OpReturn}}, Maps: []api.Map{mapAt(2, "", "N,N")}})
	}
}

// trapped is a method whose first two instructions may be trapped: its locals are N, then I, and it has the long at 2.
func trapped(x ...api.Trap) api.Method {
	return api.Method{Desc: "(J)V", Stack: 2, Locals: 4, Code: []api.Ins{
		{Op: api.OpNull},         // 0: J, -, T, T
		{Op: api.OpAstore, N: 2}, // 1: J, -, T, T with N on the stack
		{Op: api.OpIconst5},      // 2: J, -, N, T
		{Op: api.OpIstore, N: 2}, // 3
		{Op: api.OpReturn},       // 4: J, -, I, T
		{Op: api.OpReturn},       // 5: the handler
		{Op: api.OpGoto, N: 6},   // 6: nothing comes here
	}, Traps: x, Maps: []api.Map{mapAt(5, "J", "LThrowable;"), mapAt(6, "LA;", "")}}
}

// with has another map for the handler.
func with(m api.Method, locals, stack string) api.Method {
	m.Maps[0] = mapAt(5, locals, stack)
	return m
}

// stand asks whether all instructions within a trap are some of these.
func stand(x api.Trap, places ...int) bool {
	for at := max(x.From, 0); at < x.To; at++ {
		if !slices.Contains(places, at) {
			return false
		}
	}
	return true
}

func TestTrapsWithinWhichSomethingStands(t *testing.T) {
	for from := -2; from < 7; from++ {
		for to := from + 1; to <= 7; to++ {
			x := api.Trap{From: from, To: to, At: 5}
			typed(t, stand(x, 0, 1, 2, 3, 4, 5), trapped(x)) // at 6 there is no long
			typed(t, true, with(trapped(x), "", "LThrowable;"))
			// Null stands at 2 just ahead of the instructions 2 and 3, an int ahead of 4; what the handler's own map tells, ahead of 5.
			typed(t, stand(x, 2, 3, 5), with(trapped(x), "J,N", "LThrowable;"))
			typed(t, stand(x, 4, 5), with(trapped(x), "T,T,I", "T"))
			typed(t, stand(x), with(trapped(x), "", ""))
			x.Class = "A"
			typed(t, stand(x), trapped(x))
		}
	}
	for _, from := range []int{math.MinInt, math.MinInt + 1, -1000, -1} {
		for _, to := range []int{-1, 0, math.MinInt + 2, 7} {
			if from < to {
				typed(t, to <= 0, with(trapped(api.Trap{From: from, To: to, At: 5, Class: "X"}), "N", "N"))
			}
		}
	}
}

func TestTrapsOfEachClass(t *testing.T) {
	all := []string{"LThrowable;", "LObject;", "LMathFault;", "LOwn;", "LNullFault;", "LA;", "N", "T", "I", "", "T,T", "LThrowable;,T", "J", "[I"}
	takes := map[string][]string{
		"":          {"LThrowable;", "LObject;", "T"},
		"Throwable": {"LThrowable;", "LObject;", "T"},
		"MathFault": {"LThrowable;", "LObject;", "T", "LMathFault;"},
		"Own":       {"LThrowable;", "LObject;", "T", "LMathFault;", "LOwn;"},
		"NullFault": {"LThrowable;", "LObject;", "T", "LNullFault;"},
		"Object":    nil, "A": nil, "sys": nil, "X": nil, "LOwn;": nil, "[I": nil, "[LOwn;": nil, "I": nil, " ": nil,
	}
	for class, maps := range takes {
		for _, stack := range all {
			m := with(trapped(api.Trap{From: 1, To: 4, At: 5, Class: class}), "J", stack)
			typed(t, slices.Contains(maps, stack), m)
			m.Traps[0] = api.Trap{From: 6, To: 7, At: 5, Class: class} // of what nothing comes to
			m = with(m, "", stack)
			typed(t, slices.Contains(maps, stack), m)
		}
	}
}

func TestManyTraps(t *testing.T) {
	good, other := api.Trap{From: 0, To: 5, At: 5}, api.Trap{From: 3, To: 4, At: 5, Class: "Own"}
	typed(t, true, trapped(good, other))
	typed(t, true, trapped(other, good, other))
	typed(t, false, trapped(good, api.Trap{From: 3, To: 4, At: 5, Class: "A"}))
	typed(t, false, trapped(good, api.Trap{From: 4, To: 5, At: 6}))
	typed(t, false, trapped(api.Trap{From: 4, To: 5, At: 6}, good))
	typed(t, true, trapped(api.Trap{From: 5, To: 6, At: 5}, good)) // a handler of itself
	typed(t, false, trapped(api.Trap{From: 0, To: 1, At: 6}))
	m := trapped(good)
	m.Stack = 1
	typed(t, true, m)
	none := api.Method{Code: code(api.OpReturn, api.OpGoto), Traps: []api.Trap{{To: 1, At: 1}}, Maps: []api.Map{mapAt(1, "", "")}}
	none.Code[1].N = 1
	typed(t, false, none) // there is no room for what is thrown
	// A null's class isn't told: it doesn't go for what is thrown.
	typed(t, false, with(trapped(good), "J", "N"))
}

// TestNilWorlds have nothing, neither Throwable.
func TestNilWorlds(t *testing.T) {
	static := api.Method{Static: true, Desc: "(I)I", Stack: 1, Locals: 1, Code: code(api.OpIload, api.OpIreturn)}
	answers(t, nil, "A", static, api.OK, frame("I", ""), frame("I", "I"))
	answers(t, nil, "A", loop(), api.OK, frame("I,T", ""), frame("I,T", "I"), frame("I,I", ""), frame("I,I", "I"), frame("I,I", ""), frame("I,I", "I"), frame("I,I", "I,I"), frame("I,I", "I"), frame("I,I", ""), frame("I,I", ""), frame("I,I", "I"))
	own := api.Method{Desc: "()V", Locals: 1, Code: code(api.OpReturn)}
	answers(t, nil, "A", own, api.OK, frame("LA;", ""))
	own.Maps = []api.Map{mapAt(0, "LA;", "")}
	answers(t, nil, "A", own, api.ErrType)
	own.Maps = []api.Map{mapAt(0, "", "")}
	answers(t, nil, "A", own, api.OK, frame("T", ""))
	trap := api.Method{Static: true, Desc: "()V", Stack: 1, Code: code(api.OpNop, api.OpReturn, api.OpReturn), Traps: []api.Trap{{To: 1, At: 2}}, Maps: []api.Map{mapAt(2, "", "T")}}
	answers(t, nil, "A", trap, api.ErrType)
	answers(t, world(t), "A", trap, api.OK, frame("", ""), frame("", ""), frame("", "T"))
}

// TestClassesOfAnyText are the first local's.
func TestClassesOfAnyText(t *testing.T) {
	w := world(t)
	m := api.Method{Desc: "()V", Stack: 1, Locals: 1, Code: code(api.OpAload, api.OpPop, api.OpReturn)}
	for _, class := range []string{"A", "X", "", "[I", "a b", "LA;", strings.Repeat("A", 1<<16)} {
		this := "L" + class + ";"
		answers(t, w, class, m, api.OK, frame(this, ""), frame(this, this), frame(this, ""))
	}
	m.Code = []api.Ins{{Op: api.OpAload}, named(api.OpInvokevirtual, "A", "run", "()V"), {Op: api.OpReturn}}
	for class, e := range map[string]api.Errno{"A": api.OK, "B": api.OK, "x/C": api.OK, "Object": api.ErrType, "X": api.ErrType, "": api.ErrType} {
		if got := asks(t, w, class, m); got != e {
			t.Errorf("%q: %d", class, got)
		}
	}
	// Of a static method there is no such local.
	m.Static = true
	answers(t, w, "A", m, api.ErrType)
}

// TestLongCodes have as many instructions as a class's code has bytes, and more.
func TestLongCodes(t *testing.T) {
	w := world(t)
	for _, n := range []int{4096, 50000} {
		c := make([]api.Ins, n)
		c[n-1].Op = api.OpReturn
		m := api.Method{Static: true, Desc: "()V", Stack: 1, Code: c}
		for i := range n {
			m.Maps = append(m.Maps, api.Map{At: i})
		}
		answers(t, w, "A", m, api.OK, make([]api.Frame, n)...)
		m.Maps[n-1].Stack = []string{"I"}
		answers(t, w, "A", m, api.ErrType)
	}
}
