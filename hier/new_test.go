package hier_test

import (
	"fmt"
	"math"
	"slices"
	"strings"
	"testing"

	"carpetbag/api"
)

// P16.1: which units go together.

func TestTheFamilyGoesTogether(t *testing.T) {
	l := family()
	for range l {
		worldOf(t, l...)
		l = append(l[1:], l[0])
	}
	slices.Reverse(l)
	worldOf(t, l...)
}

func TestNoUnits(t *testing.T) {
	worldOf(t)
	worldOf(t, []api.Unit{}...)
	refuses(t, api.Unit{})
	refuses(t, api.Unit{Name: "A"})
	refuses(t, api.Unit{Super: "Object"})
}

// row are so many classes, each of the one ahead of it.
func row(n int) []api.Unit {
	l := make([]api.Unit, n)
	for i := range l {
		l[i] = class(fmt.Sprint("c", i), "Object")
		if i > 0 {
			l[i].Super = l[i-1].Name
		}
	}
	return l
}

func TestHowManyUnits(t *testing.T) {
	for n := range 70 {
		judges(t, n <= 32, row(n)...)
		l := row(n)
		for i := range l {
			l[i].Super = "Throwable"
		}
		judges(t, n <= 32, l...)
	}
	w := worldOf(t, row(32)...)
	if !w.Is("c31", "Object") || !w.Is("c31", "c0") || w.Common("c31", "c7") != "c7" {
		t.Error("a long line")
	}
}

func TestNamesOfClasses(t *testing.T) {
	for _, s := range []string{"A", "a", "a/B", "0", "$", "_", "A$1/b", "objects", "Object2", "SYS", "I", "J", "N", "T", "LA", strings.Repeat("a", 64)} {
		worldOf(t, class(s, "Object"))
		worldOf(t, class("A2", s), class(s, "Object"))
	}
	for _, s := range []string{"", "/", "a/", "/a", "a//b", "a b", "a.b", "[A", "[I", "LA;", "A;", "é", "a\x00", "a\n", " ", "a-b", strings.Repeat("a", 65), strings.Repeat("a", 1<<20)} {
		refuses(t, class(s, "Object"))
		refuses(t, class("A2", s), class(s, "Object"))
	}
}

func TestNamesTwice(t *testing.T) {
	refuses(t, class("A", "Object"), class("A", "Object"))
	refuses(t, class("A", "Object"), class("A", "Throwable"))
	refuses(t, class("A", "Object"), class("B", "Object"), class("A", "Object"))
	refuses(t, class("A", "Object"), class("B", "A"), class("A", "B"))
	worldOf(t, class("A", "Object"), class("a", "Object"), class("a/A", "Object"))
	for i := range family() {
		refuses(t, append(family(), family()[i])...)
	}
}

func TestNamesOfBuiltInClasses(t *testing.T) {
	for _, x := range builtIns {
		for _, super := range []string{"Object", "Throwable", x[1], x[0], "A"} {
			refuses(t, class(x[0], super))
			refuses(t, class("A", "Object"), class(x[0], super))
			refuses(t, class(x[0], super), class("A", "Object"))
		}
		worldOf(t, class(x[0]+"2", "Object"))
		worldOf(t, class("x/"+x[0], "Object"))
	}
}

func TestSuperclasses(t *testing.T) {
	for _, x := range builtIns {
		judges(t, x[0] != "sys", class("A", x[0]))
		judges(t, x[0] != "sys", class("B", "A"), class("A", x[0]))
		judges(t, x[0] != "sys", class("A", "Object"), class("B", x[0]), class("C", "Object"))
	}
	for _, s := range []string{"", "B", "a", "object", "LObject;", "[I", "Object ", "N"} {
		refuses(t, class("A", s))
		refuses(t, class("A", "Object"), class("C", s), class("D", "A"))
		refuses(t, class("D", "C"), class("C", s))
	}
}

func TestNoClassIsItsOwnSuperclass(t *testing.T) {
	for n := 1; n <= 32; n++ {
		l := row(n)
		l[0].Super = l[n-1].Name
		refuses(t, l...)
		slices.Reverse(l)
		refuses(t, l...)
		if n == 32 {
			continue
		}
		// Beside classes that go together, and ahead of or behind one that leads into the round.
		for _, x := range []api.Unit{class("A", "Object"), class("A", "c0"), class("A", l[n/2].Name)} {
			refuses(t, append([]api.Unit{x}, l...)...)
			refuses(t, append(l, x)...)
		}
		l[slices.IndexFunc(l, func(u api.Unit) bool { return u.Name == "c0" })].Super = "Object"
		worldOf(t, append(l, class("A", "c0"))...)
	}
	refuses(t, class("A", "A"))
	refuses(t, class("A", "B"), class("B", "A"))
	refuses(t, class("A", "B"), class("B", "C"), class("C", "A"))
	refuses(t, class("A", "B"), class("B", "C"), class("C", "B"))
	refuses(t, class("A", "B"), class("B", "C"), class("C", "C"))
}

func TestNamesOfMembers(t *testing.T) {
	for _, s := range []string{"a", "Z", "0", "_", "$", "main", "a1_$Z", "I", "Code", "print", strings.Repeat("m", 64)} {
		worldOf(t, field(s, "I"))
		worldOf(t, method(s, "()V"))
	}
	for _, s := range []string{"", "a/b", "a b", "<init>", "a.b", "a-b", "a;", "é", "a\x00", "a\n", " a", strings.Repeat("m", 65), strings.Repeat("m", 1<<20)} {
		refuses(t, field(s, "I"))
		refuses(t, method(s, "()V"))
	}
}

func TestTypesOfMembers(t *testing.T) {
	for _, s := range types() {
		own := []string{"I", "J"}
		for _, dims := range []string{"[", "[[", "[[[", "[[[[[[[["} {
			own = append(own, dims+"I", dims+"B")
		}
		for _, dims := range []string{"", "[", "[[", "[[[[[[[["} {
			for _, x := range builtIns {
				own = append(own, dims+"L"+x[0]+";")
			}
			own = append(own, dims+"LA;", dims+"LB;")
		}
		wanted := slices.Contains(own, s)
		other := class("B", "A")
		several := slices.Contains([]string{"", "LA;LB;", "[LA;LB;"}, s) // none, or two
		judges(t, wanted, field("f", s), other)
		judges(t, wanted || several, other, method("m", "("+s+")V"))
		judges(t, wanted || several, other, method("m", "(IJ"+s+"J)V"))
		judges(t, wanted || s == "V", method("m", "()"+s), other)
		judges(t, wanted || s == "V", method("m", "(LA;)"+s), other)
		judges(t, s == "()V" || s == "(LA;)V", method("m", s), other)
		refuses(t, method("m", "("+s), other)
		refuses(t, method("m", "()V"+s+"V"), other)
		refuses(t, method("m", "("+s+")"), other)
		refuses(t, method("m", "("+s+")IV"), other)
	}
	for _, s := range []string{"(I)V", "(LA;)LA;", "()[[LObject;", "(" + strings.Repeat("J", 16) + ")V"} {
		worldOf(t, method("m", s))
		refuses(t, field("f", s))
	}
	refuses(t, method("m", "("+strings.Repeat("J", 17)+")V"))
}

// TestClassesThatAreNamed has a class of another unit named, and then not be there.
func TestClassesThatAreNamed(t *testing.T) {
	for _, u := range []api.Unit{
		field("f", "Lx/B;"), field("f", "[Lx/B;"), field("f", "[[[[[[[[Lx/B;"),
		method("m", "(Lx/B;)V"), method("m", "([[Lx/B;)V"), method("m", "()Lx/B;"), method("m", "()[Lx/B;"), method("m", "(IJ[BLA;Lx/B;)V"), method("m", "(ILx/B;J)I"),
		trap("x/B"),
	} {
		worldOf(t, u, class("x/B", "Object"))
		worldOf(t, class("x/B", "A"), u)
		refuses(t, u)
		refuses(t, u, class("B", "Object"), class("x/b", "A"))
	}
}

func TestTraps(t *testing.T) {
	for _, x := range builtIns {
		worldOf(t, trap(x[0]))
	}
	worldOf(t, trap(""))
	worldOf(t, trap("A"))
	for _, s := range []string{"B", "a", "LA;", "[A", "[I", "[LA;", "N", "I", " ", "A ", "\x00"} {
		refuses(t, trap(s))
	}
	u := trap("A")
	for at := range 5 {
		u.Methods[0].Traps = []api.Trap{{}, {Class: "A"}, {}, {Class: "Object"}, {Class: "sys"}}
		worldOf(t, u)
		u.Methods[0].Traps[at].Class = "B"
		refuses(t, u)
	}
	// Where traps stand is layer 18's.
	u.Methods[0].Traps = []api.Trap{{From: 9, To: -1, At: math.MaxInt}}
	worldOf(t, u)
}

func TestTwoFieldsOfOneName(t *testing.T) {
	u := field("f", "I")
	for _, other := range []api.Field{{Name: "f", Desc: "I"}, {Name: "f", Desc: "J"}, {Static: true, Name: "f", Desc: "I"}, {Static: true, Name: "f", Desc: "LA;"}} {
		u.Fields = []api.Field{{Name: "f", Desc: "I"}, other}
		refuses(t, u)
		u.Fields = []api.Field{other, {Name: "g", Desc: "I"}, {Name: "f", Desc: "I"}}
		refuses(t, u)
		// In another class they may be.
		u.Fields = []api.Field{{Name: "f", Desc: "I"}}
		worldOf(t, u, api.Unit{Name: "B", Super: "A", Fields: []api.Field{other}})
		worldOf(t, u, api.Unit{Name: "B", Super: "Object", Fields: []api.Field{other}})
	}
	u.Fields = []api.Field{{Name: "f", Desc: "I"}, {Name: "F", Desc: "I"}, {Name: "ff", Desc: "I"}}
	u.Methods = []api.Method{{Name: "f", Desc: "()V"}}
	worldOf(t, u)
}

func TestTwoMethodsOfOneName(t *testing.T) {
	u := method("m", "()V")
	for _, static := range []bool{false, true} {
		for _, other := range []bool{false, true} {
			u.Methods = []api.Method{{Static: static, Name: "m", Desc: "()V"}, {Static: other, Name: "m", Desc: "()V"}}
			refuses(t, u)
			u.Methods = []api.Method{{Static: static, Name: "m", Desc: "()V"}, {Name: "n", Desc: "()V"}, {Static: other, Name: "m", Desc: "()V"}}
			refuses(t, u)
			for _, d := range []string{"()I", "(I)V", "(J)V", "()LA;"} {
				u.Methods = []api.Method{{Static: static, Name: "m", Desc: "()V"}, {Static: other, Name: "m", Desc: d}}
				worldOf(t, u)
			}
			u.Methods = []api.Method{{Static: static, Name: "m", Desc: "()V"}, {Static: other, Name: "n", Desc: "()V"}}
			worldOf(t, u)
		}
	}
}

// TestStaticAsTheSuperclasses goes over classes between which none, one or more don't have the method.
func TestStaticAsTheSuperclasses(t *testing.T) {
	for n := 2; n < 6; n++ {
		for _, static := range []bool{false, true} {
			for _, other := range []bool{false, true} {
				l := row(n)
				l[0].Methods = []api.Method{{Static: static, Name: "m", Desc: "()V"}}
				l[n-1].Methods = []api.Method{{Static: other, Name: "m", Desc: "()V"}}
				judges(t, static == other, l...)
				slices.Reverse(l)
				judges(t, static == other, l...)
				// Another one in the class ahead, or behind.
				l[0].Methods = append([]api.Method{{Static: !other, Name: "m", Desc: "(I)V"}}, l[0].Methods...)
				judges(t, static == other, l...)
				l[n-1].Methods = append([]api.Method{{Static: other, Name: "m", Desc: "(I)V"}}, l[n-1].Methods...)
				refuses(t, l...)
			}
		}
	}
	for i := range 8 {
		a, b, c := method("m", "()V"), method("m", "()V"), method("m", "()V")
		b.Name, b.Super, c.Name, c.Super = "B", "A", "C", "B"
		a.Methods[0].Static, b.Methods[0].Static, c.Methods[0].Static = i&1 != 0, i&2 != 0, i&4 != 0
		judges(t, i == 0 || i == 7, a, b, c)
		b.Super = "Object"
		judges(t, i&2 != 0 == (i&4 != 0), a, b, c)
		b.Super, c.Super = "A", "A"
		judges(t, i == 0 || i == 7, a, b, c)
		b.Super, c.Super = "Object", "Object"
		worldOf(t, a, b, c)
	}
	// Of fields nothing of that kind is asked, nor of a field and a method.
	u := api.Unit{Name: "B", Super: "A", Fields: []api.Field{{Static: true, Name: "f", Desc: "I"}}, Methods: []api.Method{{Static: true, Name: "n", Desc: "()V"}}}
	a := field("f", "I")
	a.Fields = append(a.Fields, api.Field{Name: "n", Desc: "I"})
	worldOf(t, a, u)
	// Nor of sys' methods, of which no class is.
	for _, x := range nativeMethods {
		worldOf(t, method(x.name, x.desc))
	}
}

func TestEachNativeMethodsNameMayBeAnothers(t *testing.T) {
	for _, x := range nativeMethods {
		for _, static := range []bool{false, true} {
			u := method(x.name, x.desc)
			u.Methods[0].Static = static
			w := worldOf(t, u)
			if m, ok := w.Method("A", x.name, x.desc); !ok || m != (api.Member{Class: "A", Static: static}) || w.Native("A", x.name, x.desc) {
				t.Errorf("%v: %v, %v", x, m, ok)
			}
		}
	}
}

// TestWhatIsNotAsked has in units what other layers ask.
func TestWhatIsNotAsked(t *testing.T) {
	u := method("m", "(LA;)V")
	u.Methods[0].Stack, u.Methods[0].Locals = math.MaxInt, math.MinInt
	u.Methods[0].Code = []api.Ins{{Op: 255, N: -1, M: 5, Class: "none/here", Name: "<x>", Desc: "?", Text: "\xff"}, {Op: api.OpNew, Class: "X"}, {Op: api.OpGoto, N: 99}}
	u.Methods[0].Maps = []api.Map{{At: -1, Locals: []string{"LX;", "?"}, Stack: []string{"-"}}}
	worldOf(t, u)
	for i := range 200 {
		u.Fields = append(u.Fields, api.Field{Name: fmt.Sprint("f", i), Desc: "I"})
		u.Methods = append(u.Methods, api.Method{Name: fmt.Sprint("m", i), Desc: "()V"})
	}
	worldOf(t, u)
}

// TestEachTextAlone has each text that the family has be each of some others.
func TestEachTextAlone(t *testing.T) {
	all := append(names(), types()...)
	all = append(all, "f", "run", "()V", "(I)V", "(X)V", "()LX;", "print", "<init>")
	right, wrong := 0, 0
	for i := 0; ; i++ {
		if _, ok := textAt(family(), i); !ok {
			break
		}
		for _, s := range all {
			l := family()
			at, _ := textAt(l, i)
			*at = s
			wanted := together(l)
			judges(t, wanted, l...)
			if wanted {
				right++
			} else {
				wrong++
			}
		}
	}
	if right < 1000 || wrong < 1000 {
		t.Errorf("but %d right ones and %d wrong ones", right, wrong)
	}
}

// textAt is one of the texts that units have.
func textAt(l []api.Unit, n int) (*string, bool) {
	var all []*string
	for i := range l {
		u := &l[i]
		all = append(all, &u.Name, &u.Super)
		for j := range u.Fields {
			all = append(all, &u.Fields[j].Name, &u.Fields[j].Desc)
		}
		for j := range u.Methods {
			m := &u.Methods[j]
			all = append(all, &m.Name, &m.Desc)
			for k := range m.Traps {
				all = append(all, &m.Traps[k].Class)
			}
		}
	}
	if n >= len(all) {
		return nil, false
	}
	return all[n], true
}

// TestThrownUnits holds New, and what its worlds tell, against the model.
func TestThrownUnits(t *testing.T) {
	d := dice(1)
	right, wrong := 0, 0
	for range 20000 {
		l := thrownUnits(&d)
		wanted := together(l)
		judges(t, wanted, l...)
		if !wanted {
			wrong++
			continue
		}
		if right++; right%10 == 0 {
			m := modelOf(l)
			tells(t, worldOf(t, l...), m, []string{"A", "B", "C", "D", "sys", "Object", "MathFault", ""}, []string{"N", "LA;", "LB;", "[LC;", "[LD;", "[[LA;", "LObject;", "[LObject;", "[I", "I"}, membersOf(m))
		}
	}
	if right < 2000 || wrong < 2000 {
		t.Errorf("but %d right ones and %d wrong ones", right, wrong)
	}
}

func thrownUnits(d *dice) []api.Unit {
	var l []api.Unit
	for _, name := range []string{"A", "B", "C", "D"}[:d.next(5)] {
		u := class(name, oneOf(d, "A", "B", "C", "Object", "Object", "Object", "MathFault"))
		for range d.next(3) {
			u.Fields = append(u.Fields, api.Field{Static: d.next(2) == 0, Name: oneOf(d, "f", "g", "h", "i"), Desc: oneOf(d, "I", "LA;", "[J", "[LC;", "LObject;", "J", "J", "[B")})
		}
		for range d.next(3) {
			m := api.Method{Static: d.next(5) == 0, Name: oneOf(d, "f", "m", "n", "print"), Desc: oneOf(d, "()V", "()V", "(I)V", "(LA;)V", "()LB;", "(I)LX;")}
			if d.next(4) == 0 {
				m.Traps = []api.Trap{{Class: oneOf(d, "", "Throwable", "A", "B")}}
			}
			u.Methods = append(u.Methods, m)
		}
		l = append(l, u)
	}
	return l
}
