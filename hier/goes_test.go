package hier_test

import (
	"slices"
	"strings"
	"testing"

	"carpetbag/hier"
)

// P16.1: what goes for what.

// goes asks of two types whether the first goes for the second.
func goes(t testing.TB, w *hier.World, from, to string, wanted bool) {
	t.Helper()
	if got := w.Goes(from, to); got != wanted {
		t.Errorf("Goes(%q, %q): %v", from, to, got)
	}
}

func TestClassesGoWrittenOut(t *testing.T) {
	w := worldOf(t, family()...)
	for _, x := range []struct {
		from, to string
		back     bool
	}{
		{"LA;", "LA;", true}, {"LD;", "LB;", false}, {"LD;", "LObject;", false}, {"LOwn;", "LThrowable;", false}, {"LObject;", "LObject;", true},
		{"N", "LA;", false}, {"N", "LObject;", false}, {"N", "[I", false}, {"N", "[[LA;", false}, {"N", "N", true}, {"N", "Lsys;", false},
		{"[I", "[I", true}, {"[B", "[B", true}, {"[I", "LObject;", false}, {"[B", "LObject;", false}, {"[LA;", "LObject;", false}, {"[[I", "LObject;", false},
		{"[LD;", "[LB;", false}, {"[LD;", "[LObject;", false}, {"[[LD;", "[[LB;", false}, {"[[LD;", "[LObject;", false}, {"[[I", "[LObject;", false}, {"[[I", "[[I", true}, {"[[[I", "[LObject;", false}, {"[[[I", "[[LObject;", false},
		{"I", "I", true}, {"J", "J", true}, {"T", "T", true}, {"-", "-", true}, {"", "", true}, {"V", "V", true}, {"x", "x", true},
	} {
		goes(t, w, x.from, x.to, true)
		goes(t, w, x.to, x.from, x.back)
	}
	for _, x := range [][2]string{
		{"LD;", "LE;"}, {"LA;", "LF;"}, {"LA;", "LThrowable;"}, {"LD;", "D"}, {"D", "B"}, {"D", "A"},
		{"I", "J"}, {"I", "T"}, {"J", "-"}, {"I", "N"}, {"N", "I"}, {"N", "J"}, {"N", "T"}, {"N", ""}, {"N", "-"}, {"N", "V"}, {"I", "LObject;"}, {"J", "LObject;"}, {"V", "LObject;"}, {"", "LObject;"},
		{"[I", "[B"}, {"[I", "[[I"}, {"[I", "I"}, {"[LA;", "LA;"}, {"[LA;", "[I"}, {"[LA;", "[LF;"}, {"[LD;", "[LE;"}, {"[[LA;", "[LA;"}, {"[I", "[LObject;"}, {"[B", "[LObject;"}, {"[[I", "[[LObject;"}, {"[I", "LThrowable;"}, {"[LD;", "LD;"}, {"[N", "[LA;"}, {"[N", "[[I"}, {"[[B", "[[I"},
	} {
		goes(t, w, x[0], x[1], false)
		goes(t, w, x[1], x[0], false)
	}
}

func TestClassesThatArentThereDontGo(t *testing.T) {
	w := worldOf(t, family()...)
	for _, x := range []string{"LX;", "[LX;", "[[[[[[[[LX;", "[[[[[[[[[LX;", "L;", "[L;", "LA;;", "LA;LB;", "La b;", "LLA;;", "L[A;"} {
		for _, to := range append(types(), x) {
			goes(t, w, x, to, false)
			goes(t, w, to, x, false)
		}
	}
}

// TestTextsThatNameNoClass goes over such that begin with L or [ and others.
func TestTextsThatNameNoClass(t *testing.T) {
	w := worldOf(t, family()...)
	for _, x := range []string{"L", "LA", "Lx/C", "L[", "[", "[[", "[L", "[[LA", "[J", "[V", "[T", "[N", "[A", "[-", "[[[[[[[[[I"} {
		isArray := x[0] == '['
		goes(t, w, x, x, true)
		goes(t, w, "N", x, true)
		goes(t, w, x, "N", false)
		goes(t, w, x, "LObject;", isArray)
		goes(t, w, "["+x, "LObject;", true)
		goes(t, w, "["+x, "[LObject;", isArray)
		goes(t, w, "["+x, "["+x, true)
		goes(t, w, "LObject;", x, false)
		goes(t, w, x, "LA;", false)
		goes(t, w, "LA;", x, false)
		goes(t, w, "LA", x, x == "LA")
	}
	for _, x := range []string{"", "A", "A;", "l", "V", "T", "-", "1", "NN", "(LA;)V", "I[", "\x00", " L"} {
		goes(t, w, x, x, true)
		goes(t, w, "N", x, false)
		goes(t, w, x, "LObject;", false)
		goes(t, w, "["+x, "LObject;", true)
		goes(t, w, "["+x, "[LObject;", false)
		goes(t, w, "[N", "["+x, false)
	}
}

// P16.2: Goes is an order.

func TestGoesIsAnOrder(t *testing.T) {
	for _, w := range []*hier.World{nil, worldOf(t), worldOf(t, family()...), worldOf(t, row(32)...)} {
		all := types()
		for _, u := range row(3) {
			all = append(all, "L"+u.Name+";", "[L"+u.Name+";")
		}
		var goesFor [][]int // of each the places of those that it goes for
		for _, a := range all {
			var l []int
			for i, b := range all {
				if w.Goes(a, b) {
					l = append(l, i)
				}
			}
			goesFor = append(goesFor, l)
		}
		chains := 0
		for i, a := range all {
			named := namingForm.FindStringSubmatch(a)
			if itself := named == nil || w.Has(named[1]); slices.Contains(goesFor[i], i) != itself {
				t.Fatalf("%q goes for itself", a)
			}
			for _, j := range goesFor[i] {
				for _, k := range goesFor[j] {
					if chains++; !slices.Contains(goesFor[i], k) {
						t.Fatalf("%q goes for %q, that for %q", a, all[j], all[k])
					}
				}
				if i != j && slices.Contains(goesFor[j], i) {
					t.Fatalf("%q and %q go for one another", a, all[j])
				}
			}
		}
		if w.Has("Object") && chains < 500 {
			t.Fatalf("but %d chains", chains)
		}
	}
}

// TestLongTexts ends, and soon.
func TestLongTexts(t *testing.T) {
	const n = 1 << 20
	long := strings.Repeat("[", n)
	for _, w := range []*hier.World{nil, worldOf(t, family()...)} {
		is := w.Has("Object")
		goes(t, w, long+"I", long+"I", true)
		goes(t, w, long+"I", long+"B", false)
		goes(t, w, long+"I", "["+long+"I", false)
		goes(t, w, long+"LD;", long+"LB;", is)
		goes(t, w, long+"LB;", long+"LD;", false)
		goes(t, w, long+"LX;", long+"LX;", false)
		goes(t, w, "["+long+"I", long+"LObject;", is)
		goes(t, w, long+"I", "LObject;", is)
		goes(t, w, "N", long, true)
		goes(t, w, long, long[1:], false)
		name := "L" + strings.Repeat("a", n)
		goes(t, w, name, name, true)
		goes(t, w, name+";", name+";", false)
		if w.Has(long) || w.Is(long, long) || w.Common(name, name) != "" {
			t.Error("long names")
		}
		if _, ok := w.Method("A", long, name); ok {
			t.Error("a long method")
		}
	}
}
