package hier_test

import (
	"slices"
	"testing"

	"carpetbag/api"
	"carpetbag/hier"
)

// P16.1: what a world tells of classes and members.

func TestBuiltInClasses(t *testing.T) {
	w := worldOf(t)
	for _, x := range builtIns {
		if super, ok := w.Super(x[0]); super != x[1] || !ok || !w.Has(x[0]) {
			t.Errorf("Super(%q): %q, %v", x[0], super, ok)
		}
	}
	if !w.Is("Throwable", "Object") || !w.Is("SizeFault", "Throwable") || w.Is("Throwable", "SizeFault") || w.Is("sys", "Throwable") {
		t.Error("Is of built-in classes")
	}
	tells(t, w, modelOf(nil), names(), types(), membersOf(modelOf(nil)))
}

func TestTheFamily(t *testing.T) {
	m := modelOf(family())
	tells(t, worldOf(t, family()...), m, names(), types(), membersOf(m))
}

func TestClassesWrittenOut(t *testing.T) {
	w := worldOf(t, family()...)
	for class, super := range map[string]string{"D": "x/C", "x/C": "B", "B": "A", "A": "Object", "E": "B", "F": "Object", "Own": "Mine", "Mine": "NullFault", "Object": ""} {
		if got, ok := w.Super(class); got != super || !ok || !w.Has(class) {
			t.Errorf("Super(%q): %q, %v", class, got, ok)
		}
		if !w.Is(class, class) || !w.Is(class, "Object") || !w.Is(class, super) == (super != "") {
			t.Errorf("%q is itself, %q and Object", class, super)
		}
	}
	for _, class := range []string{"", "X", "C", "x", "LA;", "[A", "N"} {
		if got, ok := w.Super(class); got != "" || ok || w.Has(class) {
			t.Errorf("Super(%q): %q, %v", class, got, ok)
		}
		if w.Is(class, class) || w.Is(class, "Object") || w.Is("A", class) || w.Is("Object", class) {
			t.Errorf("%q isn't there", class)
		}
	}
	for _, x := range [][2]string{{"D", "x/C"}, {"D", "A"}, {"E", "A"}, {"Own", "Throwable"}, {"Own", "NullFault"}} {
		if !w.Is(x[0], x[1]) || w.Is(x[1], x[0]) {
			t.Errorf("%q is %q", x[0], x[1])
		}
	}
	for _, x := range [][2]string{{"D", "E"}, {"F", "A"}, {"Own", "MathFault"}, {"A", "Throwable"}, {"E", "x/C"}} {
		if w.Is(x[0], x[1]) || w.Is(x[1], x[0]) {
			t.Errorf("%q is %q", x[0], x[1])
		}
	}
}

func TestCommonWrittenOut(t *testing.T) {
	w := worldOf(t, family()...)
	for _, x := range [][3]string{
		{"D", "D", "D"}, {"D", "E", "B"}, {"D", "B", "B"}, {"D", "A", "A"}, {"x/C", "E", "B"}, {"F", "D", "Object"}, {"Own", "D", "Object"}, {"Own", "Mine", "Mine"}, {"Own", "NullFault", "NullFault"}, {"Own", "MathFault", "Throwable"}, {"sys", "Throwable", "Object"}, {"sys", "sys", "sys"}, {"Object", "D", "Object"}, {"Object", "Object", "Object"},
		{"D", "X", ""}, {"X", "X", ""}, {"", "", ""}, {"D", "", ""}, {"D", "LE;", ""}, {"N", "D", ""},
	} {
		if a, b := w.Common(x[0], x[1]), w.Common(x[1], x[0]); a != x[2] || b != x[2] {
			t.Errorf("Common of %q and %q: %q, %q", x[0], x[1], a, b)
		}
	}
}

func TestMembersWrittenOut(t *testing.T) {
	w := worldOf(t, family()...)
	for _, x := range []struct {
		class, name, desc string
		wanted            api.Member
	}{
		{"A", "f", "I", api.Member{Class: "A"}},
		{"B", "f", "I", api.Member{Class: "B", Static: true}},
		{"x/C", "f", "I", api.Member{Class: "B", Static: true}},
		{"D", "f", "I", api.Member{Class: "B", Static: true}}, // its own f is a long
		{"D", "f", "J", api.Member{Class: "D"}},
		{"E", "g", "[[Lx/C;", api.Member{Class: "A", Static: true}},
		{"E", "h", "LB;", api.Member{Class: "B"}},
		{"F", "f", "LF;", api.Member{Class: "F"}},
	} {
		if got, ok := w.Field(x.class, x.name, x.desc); got != x.wanted || !ok {
			t.Errorf("Field(%q, %q, %q): %v, %v", x.class, x.name, x.desc, got, ok)
		}
	}
	for _, x := range [][3]string{{"A", "f", "J"}, {"A", "h", "LB;"}, {"F", "f", "I"}, {"F", "g", "[[Lx/C;"}, {"Object", "f", "I"}, {"X", "f", "I"}, {"", "f", "I"}, {"A", "run", "()V"}, {"LA;", "f", "I"}, {"A", "f", ""}, {"A", "", "I"}, {"sys", "print", "(I)V"}} {
		if got, ok := w.Field(x[0], x[1], x[2]); got != (api.Member{}) || ok {
			t.Errorf("Field(%q): %v, %v", x, got, ok)
		}
	}
	for _, x := range []struct {
		class, name, desc string
		wanted            api.Member
	}{
		{"A", "run", "()V", api.Member{Class: "A"}},
		{"A", "run", "(I)V", api.Member{Class: "A"}},
		{"B", "run", "()V", api.Member{Class: "A"}},
		{"B", "run", "(I)V", api.Member{Class: "B"}},
		{"D", "run", "()V", api.Member{Class: "D"}},
		{"D", "run", "(I)V", api.Member{Class: "B"}},
		{"D", "make", "(ILD;)LD;", api.Member{Class: "D", Static: true}},
		{"D", "f", "()I", api.Member{Class: "A", Static: true}},
		{"Own", "print", "(I)V", api.Member{Class: "Mine"}},
	} {
		if got, ok := w.Method(x.class, x.name, x.desc); got != x.wanted || !ok {
			t.Errorf("Method(%q, %q, %q): %v, %v", x.class, x.name, x.desc, got, ok)
		}
	}
	for _, x := range [][3]string{{"A", "run", "(J)V"}, {"E", "make", "(ILD;)LD;"}, {"F", "run", "()V"}, {"Object", "run", "()V"}, {"X", "run", "()V"}, {"", "run", "()V"}, {"A", "g", "[[Lx/C;"}, {"A", "run", ""}, {"A", "", "()V"}, {"A", "print", "(I)V"}, {"Object", "print", "(I)V"}} {
		if got, ok := w.Method(x[0], x[1], x[2]); got != (api.Member{}) || ok {
			t.Errorf("Method(%q): %v, %v", x, got, ok)
		}
	}
}

func TestNativeMethods(t *testing.T) {
	for _, w := range []*hier.World{worldOf(t), worldOf(t, family()...)} {
		for _, x := range nativeMethods {
			if !w.Native("sys", x.name, x.desc) {
				t.Errorf("%v isn't native", x)
			}
			if got, ok := w.Method("sys", x.name, x.desc); got != (api.Member{Class: "sys", Static: true}) || !ok {
				t.Errorf("Method of %v: %v, %v", x, got, ok)
			}
			for _, class := range []string{"Object", "Throwable", "NullFault", "Sys", "", "A", "Mine", "Lsys;", "sys "} {
				if w.Native(class, x.name, x.desc) {
					t.Errorf("%v of %q is native", x, class)
				}
			}
			for _, y := range nativeMethods {
				if got := w.Native("sys", x.name, y.desc); got != slices.Contains(nativeMethods, native{x.name, y.desc}) {
					t.Errorf("%q with %q: %v", x.name, y.desc, got)
				}
				if _, got := w.Method("sys", x.name, y.desc); got != w.Native("sys", x.name, y.desc) {
					t.Errorf("%q with %q: %v", x.name, y.desc, got)
				}
			}
			for _, d := range []string{"", "()V", "(I)I", "(II)V", "(LObject;)V", "V", "I", x.desc + " ", x.desc[:len(x.desc)-1]} {
				if w.Native("sys", x.name, d) {
					t.Errorf("%q with %q is native", x.name, d)
				}
			}
			for _, name := range []string{"", x.name + "s", x.name[1:], "P" + x.name[1:], x.desc} {
				if w.Native("sys", name, x.desc) {
					t.Errorf("%q with %q is native", name, x.desc)
				}
			}
		}
	}
}

// TestANilWorld has nothing, built-in classes neither.
func TestANilWorld(t *testing.T) {
	for _, w := range []*hier.World{nil, {}} {
		tells(t, w, model{}, names(), types(), membersOf(modelOf(family())))
		for _, x := range nativeMethods {
			if w.Native("sys", x.name, x.desc) {
				t.Errorf("%v is native", x)
			}
		}
		if w.Has("Object") || w.Is("Object", "Object") || w.Common("Object", "Object") != "" || w.Goes("LObject;", "LObject;") || w.Goes("[I", "LObject;") {
			t.Error("Object is there")
		}
		if !w.Goes("I", "I") || !w.Goes("N", "[B") || !w.Goes("[I", "[I") || w.Goes("[I", "[B") {
			t.Error("what names no class")
		}
	}
}
