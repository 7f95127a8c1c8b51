package flow_test

import (
	"math"
	"slices"
	"testing"

	"carpetbag/api"
	"carpetbag/flow"
)

// dice tells numbers that look as if thrown, the same ones each time.
type dice uint64

func (d *dice) next(below int) int {
	*d = *d*6364136223846793005 + 1442695040888963407
	return int(uint64(*d)>>33) % below
}

// oneOf is an item of a list.
func oneOf[T any](d *dice, l ...T) T { return l[d.next(len(l))] }

// The operations by their numbers, as layer 13's page tells them.

func isOperation(op byte) bool { return slices.Contains(operations(), op) }

func operations() []byte {
	var l []byte
	for _, span := range [][2]int{{0, 10}, {16, 18}, {20, 22}, {25, 25}, {46, 46}, {50, 51}, {54, 55}, {58, 58}, {79, 79}, {83, 84}, {87, 87}, {89, 89}, {95, 97}, {100, 101}, {104, 105}, {108, 109}, {112, 113}, {116, 117}, {120, 133}, {136, 136}, {145, 145}, {148, 148}, {153, 167}, {172, 173}, {176, 182}, {184, 184}, {187, 193}, {198, 199}} {
		for op := span[0]; op <= span[1]; op++ {
			l = append(l, byte(op))
		}
	}
	return l
}

func ends() []byte { return []byte{167, 172, 173, 176, 177, 191} }

func branches() []byte {
	return []byte{153, 154, 155, 156, 157, 158, 159, 160, 161, 162, 163, 164, 165, 166, 167, 198, 199}
}

// places are the operations whose N is a local's place.
func places() []byte { return []byte{21, 22, 25, 54, 55, 58, 132} }

// plain are the operations behind which just the next one stands, and that have no local.
func plain() []byte {
	var l []byte
	for _, op := range operations() {
		if !slices.Contains(ends(), op) && !slices.Contains(branches(), op) && !slices.Contains(places(), op) {
			l = append(l, op)
		}
	}
	return l
}

// code are instructions that have an operation alone.
func code(l ...byte) []api.Ins {
	var c []api.Ins
	for _, op := range l {
		c = append(c, api.Ins{Op: op})
	}
	return c
}

// maps stand at places.
func maps(l ...int) []api.Map {
	var x []api.Map
	for _, at := range l {
		x = append(x, api.Map{At: at})
	}
	return x
}

// method has a code, beside which all is right as long as it has no locals.
func method(c []api.Ins, at ...int) api.Method {
	return api.Method{Name: "m", Desc: "()V", Code: c, Maps: maps(at...)}
}

// whole is a code in shape of which each part is asked: maps at 0, 4, 5 and 7.
func whole() api.Method {
	return api.Method{Name: "m", Desc: "(IJ)I", Stack: 2, Locals: 5, Code: []api.Ins{
		{Op: api.OpIload, N: 1},
		{Op: api.OpIfeq, N: 4},
		{Op: api.OpLload, N: 3},
		{Op: api.OpGoto, N: 5},
		{Op: api.OpNop},
		{Op: api.OpIconst5},
		{Op: api.OpIreturn},
		{Op: api.OpAthrow},
	}, Traps: []api.Trap{{From: 0, To: 8, At: 0}, {From: 2, To: 3, At: 7, Class: "Throwable"}}, Maps: maps(0, 4, 5, 7)}
}

// with is whole, changed.
func with(change func(m *api.Method)) api.Method {
	m := whole()
	change(&m)
	return m
}

// checks asks for what Check answers.
func checks(t testing.TB, m api.Method, wanted api.Errno) {
	t.Helper()
	if e := flow.Check(m); e != wanted {
		t.Errorf("Check of %v: %d, not %d", m, e, wanted)
	}
}

// goesOn asks for what Nexts answers.
func goesOn(t testing.TB, m api.Method, at int, wanted ...int) {
	t.Helper()
	if l := flow.Nexts(m, at); !slices.Equal(l, wanted) {
		t.Errorf("Nexts of %v at %d: %v, not %v", m, at, l, wanted)
	}
}

// reaches asks for what Reached answers: the places that can be come to.
func reaches(t testing.TB, m api.Method, wanted ...int) {
	t.Helper()
	l := flow.Reached(m)
	if len(l) != len(m.Code) {
		t.Fatalf("Reached of %v: %v", m, l)
	}
	var got []int
	for at, ok := range l {
		if ok {
			got = append(got, at)
		}
	}
	if !slices.Equal(got, wanted) {
		t.Errorf("Reached of %v: %v, not %v", m, got, wanted)
	}
}

// beyond are no places of a row of n.
func beyond(n int) []int {
	return []int{-1, -2, n, n + 1, n + 2, n + 1000, math.MinInt, math.MinInt + 1, math.MinInt32, math.MaxInt32, math.MaxInt - 1, math.MaxInt}
}

// thrown is a code of few kinds of instructions, traps and maps among which all is now and then right.
func thrown(d *dice) api.Method {
	n := 1 + d.next(7)
	m := api.Method{Desc: oneOf(d, "()V", "(IJ)J"), Stack: d.next(65), Locals: oneOf(d, 1, 2, 3)}
	for range n {
		switch d.next(8) {
		case 0, 1:
			m.Code = append(m.Code, api.Ins{Op: oneOf(d, branches()...), N: int64(d.next(n))})
		case 2:
			m.Code = append(m.Code, api.Ins{Op: oneOf(d, places()...), N: int64(d.next(m.Locals + d.next(2))), M: 1})
		case 3:
			m.Code = append(m.Code, api.Ins{Op: oneOf(d, ends()...), N: int64(d.next(n))})
		default:
			m.Code = append(m.Code, api.Ins{Op: oneOf(d, plain()...), N: int64(d.next(9))})
		}
	}
	if d.next(6) > 0 {
		m.Code[n-1] = api.Ins{Op: oneOf(d, ends()...), N: int64(d.next(n))}
	}
	for range d.next(3) {
		from := d.next(n)
		m.Traps = append(m.Traps, api.Trap{From: from, To: from + 1 + d.next(n-from), At: d.next(n)})
	}
	for at := range n {
		if d.next(4) > 0 {
			m.Maps = append(m.Maps, api.Map{At: at, Locals: []string{"I"}})
		}
	}
	return m
}

// spoilt is a code in which something is changed, that may make it wrong.
func spoilt(d *dice, m api.Method) api.Method {
	n := len(m.Code)
	at := append(beyond(n), 0, 1, n-1)
	x := &m.Code[d.next(n)]
	switch d.next(12) {
	case 0:
		m.Code = m.Code[:d.next(n)]
	case 1:
		x.Op = byte(d.next(256))
	case 2, 3:
		x.N = int64(oneOf(d, at...))
	case 4:
		m.Stack = oneOf(d, -1, 0, 64, 65, math.MinInt, math.MaxInt)
	case 5:
		m.Locals = oneOf(d, -1, 0, 1, 64, 65, math.MinInt, math.MaxInt)
	case 6:
		m.Desc = oneOf(d, "", "I", "()", "()V ", "(I)V", "(V)V", "()[J")
	case 7, 8, 9:
		t := api.Trap{From: oneOf(d, at...), To: oneOf(d, at...), At: oneOf(d, at...)}
		m.Traps = append(m.Traps, oneOf(d, t, api.Trap{To: 1, At: t.At}, api.Trap{From: t.From, To: n, At: 0}, api.Trap{To: t.To, At: n - 1}))
	case 10:
		m.Maps = append(m.Maps, api.Map{At: oneOf(d, at...), Stack: []string{"N"}})
	case 11:
		m.Maps = append(m.Maps, m.Maps...)
	}
	return m
}
