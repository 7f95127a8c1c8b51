package types_test

import (
	"slices"
	"testing"
	"unsafe"

	"carpetbag/api"
	"carpetbag/types"
)

// R6: what is handed in is neither changed nor kept, and what is answered is new memory.

// roomy is a list with something in its spare room.
func roomy(l []string) []string {
	return append(slices.Clone(l), "room", "room", "room")[:len(l)]
}

// roomIsLeft asks whether a list, and its room, is as roomy made it.
func roomIsLeft(l, wanted []string) bool {
	return slices.Equal(l[:len(l)+3], append(slices.Clone(wanted), "room", "room", "room"))
}

// shared asks whether two lists share memory, their spare room too.
func shared(a, b []string) bool {
	a, b = a[:cap(a)], b[:cap(b)]
	if len(a) == 0 || len(b) == 0 {
		return false
	}
	from, other := uintptr(unsafe.Pointer(&a[0])), uintptr(unsafe.Pointer(&b[0]))
	size := unsafe.Sizeof("")
	return from < other+uintptr(len(b))*size && other < from+uintptr(len(a))*size
}

// isNew asks of a frame whether it shares nothing with lists, nor its own two with one another.
func isNew(t *testing.T, f api.Frame, l ...[]string) {
	t.Helper()
	if shared(f.Locals, f.Stack) {
		t.Error("locals and stack share memory")
	}
	for _, x := range l {
		if shared(f.Locals, x) || shared(f.Stack, x) {
			t.Error("what is answered shares memory with what was handed in")
		}
	}
}

func TestFramesAreNewMemory(t *testing.T) {
	w := world(t)
	locals, stack := []string{"I", "J", "-", "N"}, []string{"J", "-", "LA;", "I"}
	f := api.Frame{Locals: roomy(locals), Stack: roomy(stack)}
	left := func() {
		t.Helper()
		if !roomIsLeft(f.Locals, locals) || !roomIsLeft(f.Stack, stack) {
			t.Fatalf("what was handed in changed: %q", f)
		}
	}
	for _, s := range []string{"I", "J", "LA;", "T", "A", "1"} {
		if g, ok := types.Push(f, s, 6); ok {
			isNew(t, g, f.Locals, f.Stack)
			spoil(g)
		}
		left()
		if g, _, ok := types.Pop(w, f, s); ok {
			isNew(t, g, f.Locals, f.Stack)
			spoil(g)
		}
		left()
		for at := range 4 {
			if g, ok := types.Store(f, at, s); ok {
				isNew(t, g, f.Locals, f.Stack)
				spoil(g)
			}
			left()
			types.Load(w, f, at, s)
			left()
		}
	}
	types.Goes(w, f, f)
	left()
	g, _ := types.Push(f, "J", 9)
	g, _, _ = types.Pop(w, g, "J")
	isNew(t, g, f.Locals, f.Stack)
	spoil(g)
	left()
}

// spoil writes over all that a frame has, and its room.
func spoil(f api.Frame) {
	for _, l := range [][]string{f.Locals, f.Stack} {
		l = l[:cap(l)]
		for i := range l {
			l[i] = "spoilt"
		}
	}
}

// TestOneListHandedInTwice has locals and stack be the same memory.
func TestOneListHandedInTwice(t *testing.T) {
	w := world(t)
	l := roomy([]string{"J", "-", "I"})
	f := api.Frame{Locals: l, Stack: l}
	one, _ := types.Push(f, "J", 9)
	two, _, _ := types.Pop(w, f, "I")
	three, _ := types.Store(f, 1, "N")
	for _, g := range []api.Frame{one, two, three} {
		isNew(t, g, l)
	}
	if !same(one, frame("J,-,I", "J,-,I,J,-")) || !same(two, frame("J,-,I", "J,-")) || !same(three, frame("T,N,I", "J,-,I")) || !roomIsLeft(l, []string{"J", "-", "I"}) {
		t.Errorf("%q, %q, %q of %q", one, two, three, l)
	}
	x := api.Map{Locals: l[2:], Stack: l[2:]}
	g, e := types.OfMap(w, api.Method{Locals: 3, Stack: 2}, x)
	if e != api.OK || !same(g, frame("I,T,T", "I")) || !roomIsLeft(l, []string{"J", "-", "I"}) {
		t.Errorf("%q, %d of %q", g, e, l)
	}
	isNew(t, g, l)
}

func TestListsAreNewMemory(t *testing.T) {
	for _, l := range [][]string{{}, {"I"}, {"I", "N"}, {"J", "I"}, {"J"}} {
		x := roomy(l)
		got := types.Expand(x)
		if shared(got, x) {
			t.Errorf("Expand of %q", l)
		}
		spoil(api.Frame{Locals: got})
		if !roomIsLeft(x, l) {
			t.Errorf("Expand of %q left %q", l, x[:len(x)+3])
		}
		m := api.Map{Locals: x, Stack: roomy(l)}
		for more := range 3 {
			f, e := types.OfMap(nil, api.Method{Locals: 2*len(l) + more, Stack: 2 * len(l)}, m)
			if e != api.OK {
				t.Fatal(e)
			}
			isNew(t, f, m.Locals, m.Stack)
			spoil(f)
			if !roomIsLeft(m.Locals, l) || !roomIsLeft(m.Stack, l) {
				t.Errorf("OfMap of %q left %q, %q", l, m.Locals, m.Stack)
			}
		}
	}
}

// TestCallsDontDependOnOneAnother asks the same once more.
func TestCallsDontDependOnOneAnother(t *testing.T) {
	for range 3 {
		one, _ := types.Start("A", api.Method{Desc: "(J)V", Locals: 5})
		two, _ := types.Start("A", api.Method{Desc: "(J)V", Locals: 5})
		isNew(t, one, two.Locals, two.Stack)
		spoil(one)
		if !same(two, frame("LA;,J,-,T,T", "")) {
			t.Fatalf("%q", two)
		}
	}
}
