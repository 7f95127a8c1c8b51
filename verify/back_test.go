package verify_test

import (
	"slices"
	"testing"
	"unsafe"

	"carpetbag/api"
	"carpetbag/verify"
)

// R6: what is handed in is neither changed nor kept, and what is answered is new memory.

// roomy is a list with something in its spare room.
func roomy[T any](l []T, room T) []T {
	return append(slices.Clone(l), room, room, room)[:len(l)]
}

// shared asks whether two lists share memory, their spare room too.
func shared(a, b []string) bool {
	a, b = a[:cap(a)], b[:cap(b)]
	if len(a) == 0 || len(b) == 0 {
		return false
	}
	from, other := uintptr(unsafe.Pointer(&a[0])), uintptr(unsafe.Pointer(&b[0]))
	size := unsafe.Sizeof(a[0])
	return from < other+uintptr(len(b))*size && other < from+uintptr(len(a))*size
}

// spoil writes over all that a frame has, and its room.
func spoil(f api.Frame) {
	for _, l := range [][]string{f.Locals, f.Stack} {
		l = l[:cap(l)]
		for i := range l {
			l[i] = "spoilt"
		}
	}
}

// areApart asks whether no two of these lists share memory.
func areApart(t *testing.T, l ...[]string) {
	t.Helper()
	for i := range l {
		for j := range i {
			if shared(l[i], l[j]) {
				t.Fatalf("%q and %q share memory", l[i], l[j])
			}
		}
	}
}

func TestFramesOfStepsAreNewMemory(t *testing.T) {
	w := world(t)
	for _, r := range tableRows() {
		locals, stack := list("I,J,-,T,N,LA;,[I"), append(list("J,-"), list(r.before)...)
		f := api.Frame{Locals: roomy(locals, "room"), Stack: roomy(stack, "room")}
		g, ok := verify.Step(w, r.method(9), f, r.x)
		if !ok {
			t.Fatal(r)
		}
		areApart(t, g.Locals, g.Stack, f.Locals, f.Stack)
		spoil(g)
		room := []string{"room", "room", "room"}
		if !slices.Equal(f.Locals[:len(locals)+3], append(locals, room...)) || !slices.Equal(f.Stack[:len(stack)+3], append(stack, room...)) {
			t.Fatalf("%v changed what was handed in: %q", r, f)
		}
		does(t, w, r.method(9), r.x, r.before, r.after)
	}
}

// TestOneListHandedInTwice has locals and stack be the same memory, empty ones with room, too.
func TestOneListHandedInTwice(t *testing.T) {
	w := world(t)
	l := roomy(list("I,I,I,I"), "room")
	for _, part := range [][]string{l, l[:1], l[:0]} {
		for _, x := range []api.Ins{at(api.OpNop, 0), at(api.OpIadd, 0), at(api.OpIconst5, 0), at(api.OpIstore, 0), at(api.OpPop, 0), at(api.OpSwap, 0)} {
			f := api.Frame{Locals: part, Stack: part}
			m := api.Method{Stack: 9}
			steps(t, w, m, f, x)
			g, ok := verify.Step(w, m, f, x)
			if ok {
				areApart(t, g.Locals, g.Stack, l)
				spoil(g)
			}
			if !slices.Equal(l[:7], list("I,I,I,I,room,room,room")) {
				t.Fatalf("%v changed what was handed in: %q", x, l[:7])
			}
		}
	}
}

// roomyMethod can be typed, and each of its lists has something in its spare room.
func roomyMethod() api.Method {
	m := trapped(api.Trap{From: 0, To: 5, At: 5}, api.Trap{From: 3, To: 4, At: 5, Class: "Own"})
	m.Static, m.Name = true, "m"
	m.Maps = []api.Map{mapAt(2, "J,N", ""), mapAt(5, "J", "LThrowable;"), mapAt(6, "LA;", "")}
	for i := range m.Maps {
		m.Maps[i].Locals = roomy(m.Maps[i].Locals, "room")
		m.Maps[i].Stack = roomy(m.Maps[i].Stack, "room")
	}
	m.Code = roomy(m.Code, api.Ins{Op: 9, N: 9, Name: "room"})
	m.Traps = roomy(m.Traps, api.Trap{From: 1, To: 2, At: 6, Class: "room"})
	m.Maps = roomy(m.Maps, mapAt(7, "room", "room"))
	return m
}

// sameMaps asks whether maps, and the room of their lists, tell the same.
func sameMaps(a, b []api.Map) bool {
	return slices.EqualFunc(a, b, func(x, y api.Map) bool {
		return x.At == y.At && slices.Equal(x.Locals[:cap(x.Locals)], y.Locals[:cap(y.Locals)]) && slices.Equal(x.Stack[:cap(x.Stack)], y.Stack[:cap(y.Stack)])
	})
}

// isLeft asks whether a method, and its room, is as another one.
func isLeft(m, was api.Method) bool {
	n, traps, maps := len(was.Code)+3, len(was.Traps)+3, len(was.Maps)+3
	return slices.Equal(m.Code[:n], was.Code[:n]) && slices.Equal(m.Traps[:traps], was.Traps[:traps]) && sameMaps(m.Maps[:maps], was.Maps[:maps]) && m.Desc == was.Desc && m.Stack == was.Stack && m.Locals == was.Locals
}

func TestMethodsAreNotChanged(t *testing.T) {
	w := world(t)
	m := roomyMethod()
	one, e := verify.Frames(w, "A", m)
	if e != api.OK || len(one) != 7 {
		t.Fatal(one, e)
	}
	two, _ := verify.Frames(w, "A", m)
	var l [][]string
	for _, f := range slices.Concat(one, two) {
		l = append(l, f.Locals, f.Stack)
	}
	for _, x := range m.Maps {
		l = append(l, x.Locals, x.Stack)
	}
	areApart(t, l...)
	for _, f := range one {
		spoil(f)
	}
	if !isLeft(m, roomyMethod()) {
		t.Fatalf("what was handed in changed: %+v", m)
	}
	answers(t, w, "A", m, api.OK, two...)
	m.Code[3].Op = api.OpLstore
	was := roomyMethod()
	was.Code[3].Op = api.OpLstore
	answers(t, w, "A", m, api.ErrType)
	if !isLeft(m, was) {
		t.Fatalf("what was handed in changed: %+v", m)
	}
}

// TestMapsThatShareLists have each be told by the same memory.
func TestMapsThatShareLists(t *testing.T) {
	l := roomy(list("I,N"), "room")
	m := api.Method{Static: true, Desc: "()V", Stack: 3, Locals: 3, Code: code(api.OpReturn, api.OpNop, api.OpNop, api.OpReturn)}
	for i := 1; i < 4; i++ {
		m.Maps = append(m.Maps, api.Map{At: i, Locals: l, Stack: l})
	}
	frames, e := verify.Frames(nil, "A", m)
	if e != api.OK || len(frames) != 4 {
		t.Fatal(frames, e)
	}
	all := [][]string{l}
	for _, f := range frames {
		all = append(all, f.Locals, f.Stack)
	}
	areApart(t, all...)
	if !slices.Equal(l[:5], list("I,N,room,room,room")) {
		t.Errorf("what was handed in changed: %q", l[:5])
	}
}

// TestWorldsKeepNothing of the units of which they were made.
func TestWorldsKeepNothing(t *testing.T) {
	l := units()
	l[1].Methods = append(l[1].Methods, roomyMethod())
	l = roomy(l, api.Unit{Name: "room"})
	w := all(t, api.OK, l...)
	if !isLeft(l[1].Methods[2], roomyMethod()) || l[:7][4].Name != "room" || len(l) != 4 {
		t.Fatal("what was handed in changed")
	}
	other := all(t, api.OK, l...)
	if w == other {
		t.Error("two worlds are one")
	}
	l[0].Name, l[0].Fields[0].Name, l[0].Methods[0].Name, l[1].Super = "Z", "z", "z", "Object"
	if !w.Has("A") || w.Has("Z") || !w.Is("B", "A") {
		t.Error("the world changed")
	}
	if _, ok := w.Field("B", "i", "I"); !ok {
		t.Error("a field went")
	}
	if _, ok := w.Method("A", "run", "()V"); !ok {
		t.Error("a method went")
	}
}

// TestCallsDontDependOnOneAnother asks the same once more, behind what is refused.
func TestCallsDontDependOnOneAnother(t *testing.T) {
	w := world(t)
	for range 3 {
		all(t, api.OK, units()...)
		all(t, api.ErrHier, unit("A"), unit("A"))
		doesNot(t, w, api.Method{}, at(api.OpIadd, 0), "I")
		does(t, w, api.Method{Stack: 1}, at(api.OpIadd, 0), "I,I", "I")
		answers(t, w, "A", api.Method{}, api.ErrForm)
		answers(t, w, "A", api.Method{Static: true, Desc: "()V", Code: code(api.OpReturn)}, api.OK, api.Frame{})
	}
}
