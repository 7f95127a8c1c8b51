package verify_test

import (
	"slices"
	"strings"
	"testing"

	"carpetbag/api"
	"carpetbag/hier"
	"carpetbag/verify"
)

// dice tells numbers that look as if thrown, the same ones each time.
type dice uint64

func (d *dice) next(below int) int {
	*d = *d*6364136223846793005 + 1442695040888963407
	return int(uint64(*d)>>33) % below
}

// oneOf is an item of a list.
func oneOf[T any](d *dice, l ...T) T { return l[d.next(len(l))] }

// units go together: A, B of it, x/C of B; Own of MathFault.
func units() []api.Unit {
	code := []api.Ins{{Op: api.OpNull}, {Op: api.OpAthrow}}
	body := func(static bool, name, desc string) api.Method {
		return api.Method{Static: static, Name: name, Desc: desc, Stack: 1, Locals: 9, Code: code}
	}
	return []api.Unit{
		{Name: "A", Super: "Object", Fields: []api.Field{
			{Name: "i", Desc: "I"}, {Name: "j", Desc: "J"}, {Name: "b", Desc: "[B"}, {Name: "a", Desc: "LA;"},
			{Static: true, Name: "si", Desc: "I"}, {Static: true, Name: "sj", Desc: "J"}, {Static: true, Name: "sb", Desc: "[B"}, {Static: true, Name: "sa", Desc: "LA;"},
		}, Methods: []api.Method{
			body(false, "run", "()V"), body(false, "get", "(IJ)I"), body(false, "own", "(LA;[I)LB;"), body(false, "far", "()J"),
			body(true, "srun", "()V"), body(true, "sget", "(JI)J"), body(true, "sown", "([LA;LB;)[LB;"), body(true, "sint", "(I)I"),
		}},
		{Name: "B", Super: "A", Fields: []api.Field{{Name: "i", Desc: "J"}, {Static: true, Name: "sb2", Desc: "LB;"}}, Methods: []api.Method{body(false, "run", "()V"), body(false, "get", "(I)V")}},
		{Name: "x/C", Super: "B"},
		{Name: "Own", Super: "MathFault"},
	}
}

// world is that of the units.
func world(t testing.TB) *hier.World {
	t.Helper()
	w, e := hier.New(units())
	if e != api.OK {
		t.Fatal(e)
	}
	return w
}

// worlds are one with classes, and none.
func worlds(t testing.TB) []*hier.World { return []*hier.World{world(t), nil} }

// list are texts with "," between, none of an empty one.
func list(s string) []string {
	if s == "" {
		return nil
	}
	return strings.Split(s, ",")
}

// frame has locals and a stack, each told as a list.
func frame(locals, stack string) api.Frame {
	return api.Frame{Locals: list(locals), Stack: list(stack)}
}

// same asks whether two frames are the same: an empty list may be nil.
func same(f, g api.Frame) bool {
	return slices.Equal(f.Locals, g.Locals) && slices.Equal(f.Stack, g.Stack)
}

// isNone asks whether a frame is the zero value, as beside a false.
func isNone(f api.Frame) bool { return len(f.Locals) == 0 && len(f.Stack) == 0 }

// at is an instruction with a number.
func at(op byte, n int64) api.Ins { return api.Ins{Op: op, N: n} }

// of is an instruction with a class.
func of(op byte, class string) api.Ins { return api.Ins{Op: op, Class: class} }

// named is an instruction with a member.
func named(op byte, class, name, desc string) api.Ins {
	return api.Ins{Op: op, Class: class, Name: name, Desc: desc}
}

// code are instructions that have an operation alone.
func code(l ...byte) []api.Ins {
	var c []api.Ins
	for _, op := range l {
		c = append(c, api.Ins{Op: op})
	}
	return c
}

// does asks for the stack behind an instruction; the locals stay.
func does(t testing.TB, w *hier.World, m api.Method, x api.Ins, before, after string) {
	t.Helper()
	const locals = "I,J,-,T,N,LA;,[I"
	f, ok := verify.Step(w, m, frame(locals, before), x)
	if !ok || !same(f, frame(locals, after)) {
		t.Errorf("%v of %q, Stack %d: %q, %v", x, before, m.Stack, f, ok)
	}
}

// doesNot asks of an instruction that can't be typed.
func doesNot(t testing.TB, w *hier.World, m api.Method, x api.Ins, stack string) {
	t.Helper()
	f, ok := verify.Step(w, m, frame("I,J,-,T,N,LA;,[I", stack), x)
	if ok || !isNone(f) {
		t.Errorf("%v of %q, Stack %d: %q, %v", x, stack, m.Stack, f, ok)
	}
}

// answers asks for what Method and Frames answer.
func answers(t testing.TB, w *hier.World, class string, m api.Method, wanted api.Errno, frames ...api.Frame) {
	t.Helper()
	if e := verify.Method(w, class, m); e != wanted {
		t.Fatalf("%+v: %d, not %d", m, e, wanted)
	}
	l, e := verify.Frames(w, class, m)
	if e != wanted || !slices.EqualFunc(l, frames, same) {
		t.Fatalf("Frames of %+v: %q, %d, not %q, %d", m, l, e, frames, wanted)
	}
}

// The operations by their numbers, as layer 13's page tells them.

func operations() []byte {
	var l []byte
	for _, span := range [][2]int{{0, 10}, {16, 18}, {20, 22}, {25, 25}, {46, 46}, {50, 51}, {54, 55}, {58, 58}, {79, 79}, {83, 84}, {87, 87}, {89, 89}, {95, 97}, {100, 101}, {104, 105}, {108, 109}, {112, 113}, {116, 117}, {120, 133}, {136, 136}, {145, 145}, {148, 148}, {153, 167}, {172, 173}, {176, 182}, {184, 184}, {187, 193}, {198, 199}} {
		for op := span[0]; op <= span[1]; op++ {
			l = append(l, byte(op))
		}
	}
	return l
}

func ends() []byte { return []byte{167, 172, 173, 176, 177, 191} }

func branches() []byte {
	return []byte{153, 154, 155, 156, 157, 158, 159, 160, 161, 162, 163, 164, 165, 166, 167, 198, 199}
}
