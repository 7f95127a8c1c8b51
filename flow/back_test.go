package flow_test

import (
	"slices"
	"testing"
	"unsafe"

	"carpetbag/api"
	"carpetbag/flow"
)

// R6: what is handed in is neither changed nor kept, and what is answered is new memory.

// roomy is a list with something in its spare room.
func roomy[T any](l []T, room T) []T {
	return append(slices.Clone(l), room, room, room)[:len(l)]
}

// shared asks whether two lists share memory, their spare room too.
func shared[T any](a, b []T) bool {
	a, b = a[:cap(a)], b[:cap(b)]
	if len(a) == 0 || len(b) == 0 {
		return false
	}
	from, other := uintptr(unsafe.Pointer(&a[0])), uintptr(unsafe.Pointer(&b[0]))
	size := unsafe.Sizeof(a[0])
	return from < other+uintptr(len(b))*size && other < from+uintptr(len(a))*size
}

// spoil writes over all that a list has, and its room.
func spoil[T any](l []T, x T) {
	l = l[:cap(l)]
	for i := range l {
		l[i] = x
	}
}

// roomyMethod is whole, each list of which has something in its spare room.
func roomyMethod() api.Method {
	m := whole()
	m.Code = roomy(m.Code, api.Ins{Op: 9, N: 9, Name: "room"})
	m.Traps = roomy(m.Traps, api.Trap{From: 1, To: 2, At: 6, Class: "room"})
	for i := range m.Maps {
		m.Maps[i].Locals = roomy([]string{"I", "J"}, "room")
		m.Maps[i].Stack = roomy([]string{"N"}, "room")
	}
	m.Maps = roomy(m.Maps, api.Map{At: 6, Locals: []string{"room"}})
	return m
}

// sameMaps asks whether maps tell the same.
func sameMaps(a, b []api.Map) bool { return slices.EqualFunc(a, b, same) }

// isLeft asks whether a method, and its room, is as roomyMethod made it.
func isLeft(m api.Method) bool {
	was := roomyMethod()
	for i, x := range m.Maps {
		y := was.Maps[i]
		if !slices.Equal(x.Locals[:5], y.Locals[:5]) || !slices.Equal(x.Stack[:4], y.Stack[:4]) {
			return false
		}
	}
	return slices.Equal(m.Code[:11], was.Code[:11]) && slices.Equal(m.Traps[:5], was.Traps[:5]) && sameMaps(m.Maps[:7], was.Maps[:7]) && m.Desc == was.Desc && m.Stack == was.Stack && m.Locals == was.Locals
}

func TestMethodsAreNotChanged(t *testing.T) {
	m := roomyMethod()
	for range 2 {
		checks(t, m, api.OK)
		reaches(t, m, 0, 1, 2, 3, 4, 5, 6, 7)
		for at := -1; at < 10; at++ {
			flow.Nexts(m, at)
			flow.MapAt(m, at)
		}
		if !isLeft(m) {
			t.Fatalf("what was handed in changed: %v", m)
		}
	}
	for _, change := range []func(m *api.Method){func(m *api.Method) { m.Stack = -1 }, func(m *api.Method) { m.Traps[0].At = 9 }, func(m *api.Method) { m.Maps = m.Maps[:1] }} {
		m := roomyMethod()
		change(&m)
		code, traps, maps := slices.Clone(m.Code[:11]), slices.Clone(m.Traps[:5]), slices.Clone(m.Maps[:7])
		flow.Check(m)
		flow.Reached(m)
		if !slices.Equal(m.Code[:11], code) || !slices.Equal(m.Traps[:5], traps) || !sameMaps(m.Maps[:7], maps) {
			t.Fatalf("what was handed in changed: %v", m)
		}
	}
}

func TestAnswersAreNewMemory(t *testing.T) {
	m := roomyMethod()
	one, _ := flow.MapAt(m, 4)
	two, _ := flow.MapAt(m, 4)
	if !same(one, api.Map{At: 4, Locals: []string{"I", "J"}, Stack: []string{"N"}}) {
		t.Fatalf("%v", one)
	}
	for _, l := range [][]string{m.Maps[1].Locals, m.Maps[1].Stack, two.Locals, two.Stack} {
		if shared(one.Locals, l) || shared(one.Stack, l) {
			t.Error("maps share memory")
		}
	}
	if shared(one.Locals, one.Stack) {
		t.Error("locals and stack share memory")
	}
	spoil(one.Locals, "spoilt")
	spoil(one.Stack, "spoilt")
	if !isLeft(m) || !same(two, api.Map{At: 4, Locals: []string{"I", "J"}, Stack: []string{"N"}}) {
		t.Errorf("%v, %v", m, two)
	}
	spoil(flow.Nexts(m, 1), -1)
	spoil(flow.Reached(m), false)
	goesOn(t, m, 1, 2, 4)
	reaches(t, m, 0, 1, 2, 3, 4, 5, 6, 7)
	if shared(flow.Nexts(m, 1), flow.Nexts(m, 1)) || shared(flow.Reached(m), flow.Reached(m)) {
		t.Error("answers share memory")
	}
}

// TestOneListHandedInTwice has a map's locals and stack be the same memory, empty ones with room, too.
func TestOneListHandedInTwice(t *testing.T) {
	l := roomy([]string{"I", "N"}, "room")
	m := method(code(api.OpReturn))
	for _, part := range [][]string{l, l[:1], l[:0]} {
		m.Maps = []api.Map{{Locals: part, Stack: part}}
		x, ok := flow.MapAt(m, 0)
		if !ok || !same(x, m.Maps[0]) || shared(x.Locals, x.Stack) || shared(x.Locals, l) || shared(x.Stack, l) {
			t.Errorf("%v, %v of %v", x, ok, part)
		}
		_ = append(x.Locals, "spoilt")
		_ = append(x.Stack, "spoilt")
		if !slices.Equal(l[:5], []string{"I", "N", "room", "room", "room"}) {
			t.Errorf("what was handed in changed: %q", l[:5])
		}
	}
}

// TestCallsDontDependOnOneAnother asks the same once more, behind what is refused.
func TestCallsDontDependOnOneAnother(t *testing.T) {
	for range 3 {
		checks(t, whole(), api.OK)
		checks(t, api.Method{}, api.ErrForm)
		reaches(t, whole(), 0, 1, 2, 3, 4, 5, 6, 7)
		reaches(t, api.Method{})
	}
}
