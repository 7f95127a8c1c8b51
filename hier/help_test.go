package hier_test

import (
	"slices"
	"strings"
	"testing"

	"carpetbag/api"
	"carpetbag/hier"
)

// dice tells numbers that look as if thrown, the same ones each time.
type dice uint64

func (d *dice) next(below int) int {
	*d = *d*6364136223846793005 + 1442695040888963407
	return int(uint64(*d)>>33) % below
}

// oneOf is an item of a list.
func oneOf[T any](d *dice, l ...T) T { return l[d.next(len(l))] }

// class is a unit without members.
func class(name, super string) api.Unit { return api.Unit{Name: name, Super: super} }

// field is a class A with one field.
func field(name, desc string) api.Unit {
	return api.Unit{Name: "A", Super: "Object", Fields: []api.Field{{Name: name, Desc: desc}}}
}

// method is a class A with one method.
func method(name, desc string) api.Unit {
	return api.Unit{Name: "A", Super: "Object", Methods: []api.Method{{Name: name, Desc: desc}}}
}

// trap is a class A with a method that has a trap of a class.
func trap(class string) api.Unit {
	u := method("m", "()V")
	u.Methods[0].Traps = []api.Trap{{Class: class}}
	return u
}

// worldOf is the world of units that go together.
func worldOf(t testing.TB, l ...api.Unit) *hier.World {
	t.Helper()
	w, e := hier.New(l)
	if e != api.OK || w == nil {
		t.Fatalf("%+v: %d", l, e)
	}
	if !together(l) {
		t.Fatalf("%+v go together", l)
	}
	return w
}

// refuses asks of units that don't go together.
func refuses(t testing.TB, l ...api.Unit) {
	t.Helper()
	if w, e := hier.New(l); e != api.ErrHier || w != nil {
		t.Fatalf("%+v: %v, %d", l, w, e)
	}
	if together(l) {
		t.Fatalf("%+v don't go together", l)
	}
}

// judges asks whether units go together, as wanted.
func judges(t testing.TB, wanted bool, l ...api.Unit) {
	t.Helper()
	if wanted {
		worldOf(t, l...)
	} else {
		refuses(t, l...)
	}
}

// family are units that go together, of all kinds.
//
//	Object: A: B: x/C: D, E; F; NullFault: Mine: Own
func family() []api.Unit {
	return []api.Unit{
		{Name: "D", Super: "x/C", Fields: []api.Field{{Name: "f", Desc: "J"}}, Methods: []api.Method{
			{Name: "run", Desc: "()V", Traps: []api.Trap{{Class: "Own"}, {}, {Class: "Throwable"}}},
			{Static: true, Name: "make", Desc: "(ILD;)LD;"},
		}},
		{Name: "A", Super: "Object", Fields: []api.Field{{Name: "f", Desc: "I"}, {Static: true, Name: "g", Desc: "[[Lx/C;"}}, Methods: []api.Method{
			{Name: "run", Desc: "()V"}, {Name: "run", Desc: "(I)V"}, {Static: true, Name: "f", Desc: "()I"},
		}},
		{Name: "x/C", Super: "B"},
		{Name: "B", Super: "A", Fields: []api.Field{{Static: true, Name: "f", Desc: "I"}, {Name: "h", Desc: "LB;"}}, Methods: []api.Method{
			{Name: "run", Desc: "(I)V"}, {Static: true, Name: "f", Desc: "(J[BLsys;[LOwn;)[I"},
		}},
		{Name: "E", Super: "B"},
		{Name: "Mine", Super: "NullFault", Methods: []api.Method{{Name: "print", Desc: "(I)V"}}},
		{Name: "F", Super: "Object", Fields: []api.Field{{Name: "f", Desc: "LF;"}}},
		{Name: "Own", Super: "Mine"},
	}
}

// names are those of the family's and the built-in classes, and some that aren't there.
func names() []string {
	l := []string{"", "X", "object", "Objec", "Object2", "LA;", "[A", "N", "x", "C", "x/", "Sys", "a", "A ", "\x00", strings.Repeat("A", 65)}
	for _, x := range builtIns {
		l = append(l, x[0])
	}
	for _, u := range family() {
		l = append(l, u.Name)
	}
	return l
}

// types are types of the family's and the built-in classes, of classes that aren't there, and texts that are no types.
func types() []string {
	l := []string{"", "I", "J", "B", "V", "N", "T", "-", "A", "1", "L", "[", "[[", "[[[", "L;", "[L;", "LA", "[LA", "[[LA", "A;", "[J", "[N", "[T", "[V", "[-", "[A", "[1", "NN", "N;", "LN;", "[NN", "La b;", "LA;LB;", "[LA;LB;", "LLA;;", "L[A;", "LA;;", "LObject", "LObject;;", "Object", "()V", "(LA;)V", "\x00", "L\n;", "l", "I[", "]", "L[", "[L[;"}
	for _, kind := range []string{"I", "B"} {
		for _, dims := range []int{1, 2, 3, 8, 9} {
			l = append(l, strings.Repeat("[", dims)+kind)
		}
	}
	for _, name := range []string{"Object", "Throwable", "sys", "NullFault", "A", "B", "x/C", "E", "F", "Own", "X", "C"} {
		for _, dims := range []int{0, 1, 2, 8, 9} {
			l = append(l, strings.Repeat("[", dims)+"L"+name+";")
		}
	}
	return l
}

// tells holds all calls of a world against the model.
func tells(t testing.TB, w *hier.World, m model, classes, types []string, members []native) {
	t.Helper()
	for _, a := range classes {
		u, ok := m[a]
		if got := w.Has(a); got != ok {
			t.Fatalf("Has(%q): %v", a, got)
		}
		if super, got := w.Super(a); super != u.Super || got != ok {
			t.Fatalf("Super(%q): %q, %v", a, super, got)
		}
		for _, b := range classes {
			if got := w.Is(a, b); got != m.is(a, b) {
				t.Fatalf("Is(%q, %q): %v", a, b, got)
			}
			if got := w.Common(a, b); got != m.common(a, b) {
				t.Fatalf("Common(%q, %q): %q", a, b, got)
			}
		}
		for _, x := range members {
			tellsMember(t, w, m, a, x)
		}
	}
	for _, a := range types {
		for _, b := range types {
			if got := w.Goes(a, b); got != m.goes(a, b) {
				t.Fatalf("Goes(%q, %q): %v", a, b, got)
			}
		}
	}
}

func tellsMember(t testing.TB, w *hier.World, m model, class string, x native) {
	t.Helper()
	wanted, ok := m.field(class, x.name, x.desc)
	if got, is := w.Field(class, x.name, x.desc); got != wanted || is != ok {
		t.Fatalf("Field(%q, %q, %q): %v, %v", class, x.name, x.desc, got, is)
	}
	wanted, ok = m.method(class, x.name, x.desc)
	if got, is := w.Method(class, x.name, x.desc); got != wanted || is != ok {
		t.Fatalf("Method(%q, %q, %q): %v, %v", class, x.name, x.desc, got, is)
	}
	if got := w.Native(class, x.name, x.desc); got != m.native(class, x.name, x.desc) {
		t.Fatalf("Native(%q, %q, %q): %v", class, x.name, x.desc, got)
	}
}

// membersOf are all members of classes, and some that aren't there.
func membersOf(m model) []native {
	l := []native{{}, {"f", ""}, {"", "I"}, {"f", "B"}, {"print", "(J)V"}, {"printLong", "(I)V"}, {"count", "()V"}, {"Print", "(I)V"}, {"print", ""}}
	for _, u := range m {
		for _, f := range u.Fields {
			l = append(l, native{f.Name, f.Desc}, native{f.Name + "x", f.Desc}, native{f.Name, "[" + f.Desc})
		}
		for _, x := range u.Methods {
			l = append(l, native{x.Name, x.Desc}, native{x.Name + "x", x.Desc}, native{x.Name, x.Desc + "I"}, native{x.Desc, x.Name})
		}
	}
	slices.SortFunc(l, func(a, b native) int { return strings.Compare(a.name+" "+a.desc, b.name+" "+b.desc) })
	return slices.Compact(l)
}
