package flow_test

import (
	"math"
	"slices"
	"strings"
	"testing"

	"carpetbag/api"
	"carpetbag/flow"
)

// P18.1: what Check answers.

func TestExample(t *testing.T) {
	checks(t, method(code(api.OpReturn)), api.OK)
}

func TestWholeIsInShape(t *testing.T) {
	checks(t, whole(), api.OK)
	checks(t, with(func(m *api.Method) { m.Static = true }), api.OK)
	checks(t, with(func(m *api.Method) { m.Name = "" }), api.OK)
}

func TestNoInstruction(t *testing.T) {
	checks(t, api.Method{}, api.ErrForm)
	checks(t, method(nil), api.ErrForm)
	checks(t, method([]api.Ins{}), api.ErrForm)
	// A native method of the built-in "sys", told in a class.
	checks(t, api.Method{Static: true, Name: "print", Desc: "(I)V", Stack: 0, Locals: 1}, api.ErrForm)
}

func TestEachByteAlone(t *testing.T) {
	for op := range 256 {
		wanted := api.ErrForm
		if slices.Contains(ends(), byte(op)) {
			wanted = api.OK
		}
		// It alone: the last instruction.
		m := method(code(byte(op)), 0)
		m.Locals = 2
		checks(t, m, wanted)
		if isOperation(byte(op)) {
			wanted = api.OK
		}
		m = method(code(byte(op), api.OpReturn), 0, 1)
		m.Locals = 2
		checks(t, m, wanted)
	}
}

// TestEndsOfRows lays each operation last behind others.
func TestEndsOfRows(t *testing.T) {
	for _, op := range operations() {
		wanted := api.ErrForm
		if slices.Contains(ends(), op) {
			wanted = api.OK
		}
		m := method(code(api.OpNop, api.OpReturn, op), 0, 2)
		m.Locals = 2
		checks(t, m, wanted)
	}
}

func TestStackAndLocals(t *testing.T) {
	for _, x := range []struct {
		n      int
		wanted api.Errno
	}{{0, api.OK}, {1, api.OK}, {63, api.OK}, {64, api.OK}, {65, api.ErrForm}, {66, api.ErrForm}, {-1, api.ErrForm}, {-64, api.ErrForm}, {math.MinInt, api.ErrForm}, {math.MaxInt, api.ErrForm}, {math.MaxInt - 1, api.ErrForm}, {1 << 32, api.ErrForm}} {
		m := method(code(api.OpReturn))
		m.Stack = x.n
		checks(t, m, x.wanted)
		m = method(code(api.OpReturn))
		m.Locals = x.n
		checks(t, m, x.wanted)
		// Locals of which one is asked.
		m.Code = []api.Ins{{Op: api.OpIload}, {Op: api.OpLload, N: math.MaxInt64}, {Op: api.OpReturn}}
		checks(t, m, api.ErrForm)
	}
}

func TestDescriptions(t *testing.T) {
	for _, s := range []string{"()V", "()I", "()J", "()LX;", "()[B", "(IJ[[ILa/B;)V", "(" + strings.Repeat("J", 16) + ")V"} {
		checks(t, with(func(m *api.Method) { m.Desc = s }), api.OK)
	}
	for _, s := range []string{"", "I", "J", "[I", "LA;", "V", "()", "(", ")", "(V)V", "()VV", " ()V", "()V ", "()B", "()T", "(I", "I)V", "(L;)V", "([J)V", "(" + strings.Repeat("I", 17) + ")V"} {
		checks(t, with(func(m *api.Method) { m.Desc = s }), api.ErrForm)
	}
	// Nothing is asked of Locals but the places that instructions tell.
	m := method(code(api.OpReturn))
	m.Desc = "(IJ)V"
	checks(t, m, api.OK)
}

func TestPlacesOfLocals(t *testing.T) {
	for _, op := range places() {
		need := int64(1)
		if op == api.OpLload || op == api.OpLstore {
			need = 2
		}
		for locals := range 65 {
			for _, n := range []int64{math.MinInt64, math.MinInt64 + 1, math.MinInt32, -2, -1, 0, 1, 2, 3, int64(locals) - 3, int64(locals) - 2, int64(locals) - 1, int64(locals), int64(locals) + 1, 63, 64, 65, 255, 256, math.MaxInt32, 1 << 32, 1<<32 + 1, math.MaxInt64 - 1, math.MaxInt64} {
				m := method([]api.Ins{{Op: op, N: n, M: 1}, {Op: api.OpReturn}})
				m.Locals = locals
				wanted := api.ErrForm
				if n >= 0 && n <= int64(locals)-need {
					wanted = api.OK
				}
				checks(t, m, wanted)
			}
		}
	}
}

// TestOtherNumbers asks nothing of what is no place: neither N and M of other operations, nor names.
func TestOtherNumbers(t *testing.T) {
	for _, op := range plain() {
		for _, n := range []int64{-1, 2, 64, math.MinInt64, math.MaxInt64} {
			m := method([]api.Ins{{Op: op, N: n, M: math.MinInt, Class: "?", Name: "?", Desc: "?", Text: "?"}, {Op: api.OpReturn, N: n}})
			checks(t, m, api.OK)
		}
	}
	m := method([]api.Ins{{Op: api.OpIinc, N: 0, M: math.MaxInt}, {Op: api.OpAthrow, N: 99}})
	m.Locals = 1
	checks(t, m, api.OK)
}

func TestBranches(t *testing.T) {
	for _, op := range branches() {
		for n := range 3 {
			m := method([]api.Ins{{Op: api.OpNop}, {Op: op, N: int64(n)}, {Op: api.OpReturn}}, 0, 1, 2)
			checks(t, m, api.OK)
		}
		for _, n := range beyond(3) {
			m := method([]api.Ins{{Op: api.OpNop}, {Op: op, N: int64(n)}, {Op: api.OpReturn}}, 0, 1, 2)
			checks(t, m, api.ErrRange)
		}
	}
}

func TestTraps(t *testing.T) {
	for _, x := range []struct {
		from, to, at int
		wanted       api.Errno
	}{
		{0, 8, 0, api.OK}, {0, 1, 0, api.OK}, {7, 8, 7, api.OK}, {6, 7, 5, api.OK}, {3, 5, 4, api.OK}, {1, 7, 5, api.OK},
		{0, 0, 0, api.ErrRange}, {4, 4, 0, api.ErrRange}, {7, 7, 0, api.ErrRange}, {8, 8, 0, api.ErrRange}, {-1, -1, 0, api.ErrRange},
		{1, 0, 0, api.ErrRange}, {5, 4, 0, api.ErrRange}, {8, 7, 0, api.ErrRange}, {0, -1, 0, api.ErrRange}, {math.MaxInt, math.MinInt, 0, api.ErrRange},
		{0, 9, 0, api.ErrRange}, {7, 9, 0, api.ErrRange}, {8, 9, 0, api.ErrRange}, {0, math.MaxInt, 0, api.ErrRange}, {math.MaxInt - 1, math.MaxInt, 0, api.ErrRange},
		{0, 8, -1, api.ErrRange}, {0, 8, 8, api.ErrRange}, {0, 8, 9, api.ErrRange}, {0, 8, math.MinInt, api.ErrRange}, {0, 8, math.MaxInt, api.ErrRange},
	} {
		trap := api.Trap{From: x.from, To: x.to, At: x.at}
		checks(t, with(func(m *api.Method) { m.Traps = []api.Trap{trap} }), x.wanted)
		checks(t, with(func(m *api.Method) { m.Traps = append(m.Traps, trap) }), x.wanted)
		checks(t, with(func(m *api.Method) { m.Traps = append([]api.Trap{trap}, m.Traps...) }), x.wanted)
	}
	checks(t, with(func(m *api.Method) { m.Traps = nil }), api.OK)
	checks(t, with(func(m *api.Method) { m.Traps = append(m.Traps, m.Traps...) }), api.OK)
	checks(t, with(func(m *api.Method) { m.Traps[0].Class = "?" }), api.OK)
	// The words ask of From just that it is less than To.
	checks(t, with(func(m *api.Method) { m.Traps[0].From = -1 }), api.OK)
}

func TestMaps(t *testing.T) {
	for _, x := range []struct {
		at     []int
		wanted api.Errno
	}{
		{[]int{0, 4, 5, 7}, api.OK}, {[]int{0, 1, 2, 3, 4, 5, 6, 7}, api.OK}, {[]int{0, 1, 4, 5, 7}, api.OK},
		{[]int{0, 0, 4, 5, 7}, api.ErrRange}, {[]int{0, 4, 5, 7, 7}, api.ErrRange}, {[]int{0, 4, 4, 5, 7}, api.ErrRange},
		{[]int{4, 0, 5, 7}, api.ErrRange}, {[]int{7, 5, 4, 0}, api.ErrRange}, {[]int{0, 4, 7, 5}, api.ErrRange}, {[]int{0, 4, 5, 7, 6}, api.ErrRange}, {[]int{0, 4, 5, 7, 0}, api.ErrRange},
		{[]int{-1, 0, 4, 5, 7}, api.ErrRange}, {[]int{0, 4, 5, 7, 8}, api.ErrRange}, {[]int{0, 4, 5, 7, 9}, api.ErrRange}, {[]int{math.MinInt, 0, 4, 5, 7}, api.ErrRange}, {[]int{0, 4, 5, 7, math.MaxInt}, api.ErrRange},
		{nil, api.ErrMissing}, {[]int{4, 5, 7}, api.ErrMissing}, {[]int{0, 5, 7}, api.ErrMissing}, {[]int{0, 4, 7}, api.ErrMissing}, {[]int{0, 4, 5}, api.ErrMissing}, {[]int{1, 2, 3, 6}, api.ErrMissing}, {[]int{0, 4, 6, 7}, api.ErrMissing},
	} {
		checks(t, with(func(m *api.Method) { m.Maps = maps(x.at...) }), x.wanted)
	}
	checks(t, with(func(m *api.Method) { m.Maps[0].Stack = []string{"?", ""} }), api.OK)
}

func TestMapsThatAreMissing(t *testing.T) {
	for _, op := range branches() {
		// Where it branches: back, to itself, and on. Behind it there is always one.
		for to := range 4 {
			for at := range 4 {
				both := []int{min(at, 2), max(at, 2)}
				m := method([]api.Ins{{Op: api.OpNop}, {Op: op, N: int64(to)}, {Op: api.OpNop}, {Op: api.OpReturn}}, slices.Compact(both)...)
				wanted := api.ErrMissing
				if to == at || to == 2 {
					wanted = api.OK
				}
				checks(t, m, wanted)
			}
		}
	}
	for _, op := range ends() {
		// Behind it.
		m := method([]api.Ins{{Op: op, N: 0}, {Op: api.OpReturn}}, 0)
		checks(t, m, api.ErrMissing)
		m.Maps = maps(0, 1)
		checks(t, m, api.OK)
		// Nothing stands there.
		m.Code = m.Code[:1]
		m.Maps = maps(0)
		checks(t, m, api.OK)
	}
	// Where a trap leads, be it come to or not.
	m := method(code(api.OpNop, api.OpNop, api.OpReturn))
	for at := range 3 {
		m.Traps = []api.Trap{{From: 0, To: 1, At: at}}
		m.Maps = nil
		checks(t, m, api.ErrMissing)
		m.Maps = maps((at + 1) % 3)
		checks(t, m, api.ErrMissing)
		m.Maps = maps(at)
		checks(t, m, api.OK)
	}
	// None is asked where the code is just gone through.
	checks(t, method(code(api.OpNop, api.OpIconst5, api.OpPop, api.OpReturn)), api.OK)
}

// wrongs are changes of whole, each of which breaks one condition.
func wrongs() (forms, ranges, missing []func(m *api.Method)) {
	forms = []func(m *api.Method){
		func(m *api.Method) { m.Stack = -1 },
		func(m *api.Method) { m.Stack = 65 },
		func(m *api.Method) { m.Locals = 65 },
		func(m *api.Method) { m.Locals = 4 },
		func(m *api.Method) { m.Desc = "I" },
		func(m *api.Method) { set(m, 4, api.Ins{Op: 240}) },
		func(m *api.Method) { set(m, 0, api.Ins{Op: api.OpIload, N: 5}) },
		func(m *api.Method) { set(m, 0, api.Ins{Op: api.OpIinc, N: -1}) },
		func(m *api.Method) { set(m, 7, api.Ins{Op: api.OpNop}) },
		func(m *api.Method) { m.Code = nil },
	}
	ranges = []func(m *api.Method){
		func(m *api.Method) { set(m, 1, api.Ins{Op: api.OpIfeq, N: -1}) },
		func(m *api.Method) { set(m, 3, api.Ins{Op: api.OpGoto, N: 8}) },
		func(m *api.Method) { m.Traps[0].To = 9 },
		func(m *api.Method) { m.Traps[0].From = 8 },
		func(m *api.Method) { m.Traps[1].At = 8 },
		func(m *api.Method) { m.Maps = append(m.Maps, m.Maps[len(m.Maps)-1]) },
		func(m *api.Method) { m.Maps = append(m.Maps, api.Map{At: 8}) },
		func(m *api.Method) { m.Maps[0].At = -1 },
	}
	missing = []func(m *api.Method){
		func(m *api.Method) { m.Maps = slices.Delete(m.Maps, 0, 1) },
		func(m *api.Method) { m.Maps = slices.Delete(m.Maps, 1, 2) },
		func(m *api.Method) { m.Maps = slices.Delete(m.Maps, 2, 3) },
		func(m *api.Method) { m.Maps = m.Maps[:1] },
	}
	return
}

// set puts an instruction into a code, if it has the place.
func set(m *api.Method, at int, x api.Ins) {
	if at < len(m.Code) {
		m.Code[at] = x
	}
}

func TestWhichErrorComesFirst(t *testing.T) {
	forms, ranges, missing := wrongs()
	pairs := func(l, other []func(m *api.Method), wanted api.Errno) {
		for i, one := range l {
			checks(t, with(one), wanted)
			for j, two := range other {
				checks(t, with(func(m *api.Method) { two(m); one(m) }), wanted)
				if t.Failed() {
					t.Fatalf("%d and %d", i, j)
				}
			}
		}
	}
	pairs(forms, forms, api.ErrForm)
	pairs(forms, ranges, api.ErrForm)
	pairs(forms, missing, api.ErrForm)
	pairs(ranges, ranges, api.ErrRange)
	pairs(ranges, missing, api.ErrRange)
	pairs(missing[:1], missing, api.ErrMissing)
	for _, one := range forms {
		checks(t, with(func(m *api.Method) { missing[1](m); ranges[0](m); one(m) }), api.ErrForm)
	}
	// What is wrong later in the row, told first.
	m := method([]api.Ins{{Op: api.OpGoto, N: 9}, {Op: api.OpNop}, {Op: 240}, {Op: api.OpReturn}})
	checks(t, m, api.ErrForm)
	m = method([]api.Ins{{Op: api.OpReturn}, {Op: api.OpGoto, N: 0}, {Op: api.OpGoto, N: 3}})
	checks(t, m, api.ErrRange)
}

// TestLongCodes asks nothing of how long a code is.
func TestLongCodes(t *testing.T) {
	n := 200000
	m := method(make([]api.Ins, n))
	m.Code[n-1] = api.Ins{Op: api.OpGoto, N: int64(n - 1)}
	m.Maps = maps(n - 1)
	checks(t, m, api.OK)
	m.Code[n-1].N = int64(n)
	checks(t, m, api.ErrRange)
	m.Code[n-1].N = int64(n - 2)
	checks(t, m, api.ErrMissing)
	m.Code[n-2].Op = 240
	checks(t, m, api.ErrForm)
	if l := flow.Nexts(m, n-1); !slices.Equal(l, []int{n - 2}) {
		t.Errorf("%v", l)
	}
}
