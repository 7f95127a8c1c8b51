package verify_test

import (
	"slices"
	"strings"
	"testing"

	"carpetbag/api"
	"carpetbag/asm"
	"carpetbag/hier"
	"carpetbag/verify"
)

// P19.1: All.

// modelAll goes as the words go.
func modelAll(l []api.Unit) api.Errno {
	for _, u := range l {
		if _, e := asm.Lower(u); e != api.OK {
			return e
		}
	}
	w, e := hier.New(l)
	for _, u := range l {
		for _, m := range u.Methods {
			if e == api.OK {
				_, e = modelFrames(w, u.Name, m)
			}
		}
	}
	return e
}

// all asks for what All answers.
func all(t testing.TB, wanted api.Errno, l ...api.Unit) *hier.World {
	t.Helper()
	w, e := verify.All(l)
	if e != wanted || (w == nil) != (e != api.OK) || e != modelAll(l) {
		t.Fatalf("%+v: %v, %d, not %d", l, w, e, wanted)
	}
	return w
}

// unit is a class with methods.
func unit(name string, l ...api.Method) api.Unit {
	return api.Unit{Name: name, Super: "Object", Methods: l}
}

// body is a static method with a code.
func body(name string, c ...api.Ins) api.Method {
	return api.Method{Static: true, Name: name, Desc: "()V", Stack: 2, Locals: 2, Code: c}
}

// The methods that have each error, or none.

func good(name string) api.Method { return body(name, api.Ins{Op: api.OpReturn}) }

func untyped(name string) api.Method {
	return body(name, api.Ins{Op: api.OpIadd}, api.Ins{Op: api.OpReturn})
}

func unformed(name string) api.Method { return body(name, api.Ins{Op: api.OpIconst5}) }

func unmapped(name string) api.Method { return body(name, api.Ins{Op: api.OpGoto}) }

func misplaced(name string) api.Method {
	m := good(name)
	m.Maps = []api.Map{{}, {}}
	return m
}

func TestAllOfNone(t *testing.T) {
	for _, l := range [][]api.Unit{nil, {}} {
		w := all(t, api.OK, l...)
		if !w.Is("Throwable", "Object") || w.Has("A") {
			t.Error("no world")
		}
	}
}

func TestAllOfUnits(t *testing.T) {
	w := all(t, api.OK, units()...)
	if !w.Is("x/C", "A") || !w.Has("Own") || w.Has("X") {
		t.Error("another world")
	}
	if m, ok := w.Method("x/C", "far", "()J"); !ok || m.Class != "A" {
		t.Error(m, ok)
	}
	// In any order, and calling one another.
	l := units()
	slices.Reverse(l)
	all(t, api.OK, l...)
	call := func(class string) api.Unit {
		return unit(class, body("run", named(api.OpInvokestatic, map[string]string{"P": "Q", "Q": "P"}[class], "run", "()V"), api.Ins{Op: api.OpReturn}))
	}
	all(t, api.OK, call("P"), call("Q"))
	all(t, api.ErrType, call("P"))
	all(t, api.ErrType, call("P"), unit("Q"))
}

// TestErrorsOfLower are of the first unit that has one, ahead of all other errors.
func TestErrorsOfLower(t *testing.T) {
	name := unit("a b")
	native := unit("P", api.Method{Static: true, Name: "m", Desc: "()V"})
	branch := unit("Q", body("m", at(api.OpGoto, 5)))
	many := unit("R")
	for range 65 {
		many.Fields = append(many.Fields, api.Field{Name: "f" + strings.Repeat("x", len(many.Fields)%60), Desc: "I"})
	}
	hierWrong := api.Unit{Name: "S", Super: "None"}
	typeWrong := unit("T", untyped("m"))
	errors := map[api.Errno]int{}
	for _, bad := range []api.Unit{name, native, branch, many, {}, unit("U", body("m", at(api.OpIload, 256), at(api.OpReturn, 0))), unit("V", body("m", at(api.OpReturn, 1)))} {
		_, e := asm.Lower(bad)
		if e == api.OK {
			t.Fatalf("%+v is lowered", bad)
		}
		errors[e]++
		all(t, e, bad)
		all(t, e, bad, unit("A"))
		all(t, e, unit("A"), unit("B"), bad)
		all(t, e, bad, hierWrong, typeWrong)
		all(t, e, hierWrong, typeWrong, bad)
		all(t, e, typeWrong, typeWrong, bad)
		for _, other := range []api.Unit{name, native, branch, many} {
			all(t, e, unit("A"), bad, other)
		}
		all(t, e, append(slices.Repeat([]api.Unit{unit("A")}, 40), bad)...)
	}
	if len(errors) < 2 {
		t.Errorf("but %v", errors)
	}
}

// TestErrorsOfNew are ahead of those of methods.
func TestErrorsOfNew(t *testing.T) {
	bad := unit("T", untyped("m"))
	for _, l := range [][]api.Unit{
		{{Name: "A", Super: "None"}}, {{Name: "A", Super: "A"}}, {unit("A"), unit("A")}, {unit("Object")}, {{Name: "A"}}, {{Name: "A", Super: "sys"}}, {{Name: "A", Super: "B"}, {Name: "B", Super: "A"}},
		{unit("A", good("m"), good("m"))}, {{Name: "A", Super: "Object", Fields: []api.Field{{Name: "f", Desc: "LX;"}}}},
	} {
		all(t, api.ErrHier, l...)
		all(t, api.ErrHier, append([]api.Unit{bad}, l...)...)
		all(t, api.ErrHier, append(slices.Clone(l), bad)...)
	}
	trap := good("m")
	trap.Traps = []api.Trap{{To: 1, Class: "X"}}
	trap.Maps = []api.Map{{Stack: []string{"LX;"}}}
	trap.Maps[0].Stack = nil
	all(t, api.ErrHier, unit("A", trap))
	var l []api.Unit
	for i := range 33 {
		l = append(l, unit("A"+strings.Repeat("x", i), good("m")))
	}
	all(t, api.OK, l[:32]...)
	all(t, api.ErrHier, l...)
	l[0].Methods = []api.Method{untyped("m")}
	all(t, api.ErrType, l[:32]...)
	all(t, api.ErrHier, l...)
}

// TestErrorsOfMethods are of the first one, unit by unit, that has one.
func TestErrorsOfMethods(t *testing.T) {
	kinds := map[api.Errno]func(name string) api.Method{api.ErrForm: unformed, api.ErrRange: misplaced, api.ErrMissing: unmapped, api.ErrType: untyped}
	for e, bad := range kinds {
		all(t, e, unit("A", bad("m")))
		all(t, e, unit("A", good("a"), good("b"), bad("m")))
		all(t, e, unit("A"), unit("B", good("m")), unit("C", good("a"), bad("m"), good("b")))
		for _, other := range kinds {
			all(t, e, unit("A", bad("m"), other("n")))
			all(t, e, unit("A", good("a"), bad("m")), unit("B", other("m")))
			all(t, e, unit("B", good("a")), unit("A", bad("z")), unit("C", other("a")))
		}
	}
}

// TestMethodsKnowTheirClass have this be of the class in which they stand.
func TestMethodsKnowTheirClass(t *testing.T) {
	get := api.Method{Name: "get", Desc: "()I", Stack: 1, Locals: 1, Code: []api.Ins{{Op: api.OpAload}, named(api.OpGetfield, "P", "f", "I"), {Op: api.OpIreturn}}}
	p := unit("P", get)
	p.Fields = []api.Field{{Name: "f", Desc: "I"}}
	q := unit("Q", get)
	all(t, api.OK, p)
	all(t, api.ErrType, p, q)
	q.Super = "P"
	all(t, api.OK, p, q)
	all(t, api.OK, q, p)
}

// TestThrownUnits have thrown methods.
func TestThrownUnits(t *testing.T) {
	d := dice(4)
	w, ins := world(t), instructions()
	got := map[api.Errno]int{}
	for range 1000 {
		l := units()
		for i := range 1 + d.next(3) {
			m := thrownMethod(&d, w, ins)
			if d.next(4) == 0 {
				m = spoilt(&d, m, ins)
			}
			m.Name = "m" + strings.Repeat("x", i)
			u := &l[d.next(2)]
			u.Methods = append(u.Methods, m)
		}
		if d.next(10) == 0 {
			l[d.next(4)].Super = oneOf(&d, "A", "B", "x/C", "X")
		}
		e := modelAll(l)
		got[e]++
		all(t, e, l...)
	}
	if got[api.OK] < 100 || got[api.ErrType] < 100 || got[api.ErrHier] < 20 || got[api.ErrForm] < 20 {
		t.Errorf("but %v", got)
	}
}
