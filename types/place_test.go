package types_test

import (
	"slices"
	"testing"

	"carpetbag/api"
	"carpetbag/hier"
	"carpetbag/types"
)

// P17.1: Place and Goes.

func TestPlacesWrittenOut(t *testing.T) {
	w := world(t)
	for _, x := range [][2]string{
		{"T", "T"}, {"I", "T"}, {"J", "T"}, {"-", "T"}, {"N", "T"}, {"LA;", "T"}, {"LX;", "T"}, {"[I", "T"}, {"", "T"}, {"?", "T"},
		{"I", "I"}, {"J", "J"}, {"-", "-"}, {"N", "N"}, {"N", "LA;"}, {"N", "[B"}, {"LA;", "LA;"}, {"LB;", "LA;"}, {"Lx/C;", "LObject;"}, {"[I", "[I"}, {"[I", "LObject;"}, {"[LB;", "[LA;"}, {"V", "V"}, {"", ""},
	} {
		if !types.Place(w, x[0], x[1]) {
			t.Errorf("%q goes for %q", x[0], x[1])
		}
	}
	for _, x := range [][2]string{
		{"T", "I"}, {"T", "J"}, {"T", "-"}, {"T", "N"}, {"T", "LObject;"}, {"T", "[I"}, {"T", ""},
		{"I", "J"}, {"J", "I"}, {"J", "-"}, {"-", "J"}, {"I", "-"}, {"I", "N"}, {"N", "I"}, {"N", "J"}, {"N", "-"}, {"I", "LObject;"}, {"-", "LObject;"},
		{"LA;", "LB;"}, {"LA;", "N"}, {"LA;", "[I"}, {"LObject;", "[I"}, {"[I", "[B"}, {"LX;", "LX;"}, {"N", "LX;"}, {"LX;", "LObject;"},
	} {
		if types.Place(w, x[0], x[1]) {
			t.Errorf("%q doesn't go for %q", x[0], x[1])
		}
	}
}

func TestEachTwoPlaces(t *testing.T) {
	for _, w := range worlds(t) {
		for _, a := range texts() {
			for _, b := range texts() {
				if got := types.Place(w, a, b); got != modelPlace(w, a, b) {
					t.Fatalf("Place(%q, %q): %v", a, b, got)
				}
				for _, x := range [][2]api.Frame{
					{{Locals: []string{a}}, {Locals: []string{b}}},
					{{Stack: []string{a}}, {Stack: []string{b}}},
					{{Locals: []string{"T", a}, Stack: []string{"N"}}, {Locals: []string{"T", b}, Stack: []string{"[I"}}},
					{{Locals: []string{"I"}, Stack: []string{a, "J", "-"}}, {Locals: []string{"T"}, Stack: []string{b, "J", "-"}}},
				} {
					if got := types.Goes(w, x[0], x[1]); got != modelPlace(w, a, b) {
						t.Fatalf("Goes(%q, %q): %v", x[0], x[1], got)
					}
				}
			}
		}
	}
}

func TestFramesWrittenOut(t *testing.T) {
	w := world(t)
	for _, x := range []struct {
		from, to api.Frame
		goes     bool
	}{
		{frame("", ""), frame("", ""), true},
		{frame("I,J,-", "LB;"), frame("I,J,-", "LA;"), true},
		{frame("I,J,-", "LB;"), frame("T,T,T", "T"), true},
		{frame("I,J,-", "LB;"), frame("I,T,-", "LB;"), true},
		{frame("I,J,-", "LA;"), frame("I,J,-", "LB;"), false},
		{frame("T,J,-", "LB;"), frame("I,J,-", "LB;"), false},
		{frame("I,J,-", "LB;"), frame("J,-,I", "LB;"), false},
		{frame("I", "I"), frame("I", "J"), false},
		{frame("I", "I"), frame("J", "I"), false},
		// Of unlike lengths.
		{frame("I", ""), frame("", ""), false},
		{frame("", ""), frame("I", ""), false},
		{frame("", ""), frame("T", ""), false},
		{frame("T", ""), frame("", ""), false},
		{frame("", "I"), frame("", ""), false},
		{frame("", ""), frame("", "T"), false},
		{frame("I,I", "I"), frame("I", "I,I"), false},
		{frame("I", "I,I"), frame("I,I", "I"), false},
		{frame("I", ""), frame("", "I"), false},
		{frame("I,T", "N"), frame("I", "N"), false},
		{frame("I", "N,N"), frame("I", "N"), false},
		{frame("I", "N"), frame("I", "N,N"), false},
	} {
		if got := types.Goes(w, x.from, x.to); got != x.goes {
			t.Errorf("Goes(%q, %q): %v", x.from, x.to, got)
		}
	}
	if !types.Goes(w, api.Frame{}, api.Frame{Locals: []string{}, Stack: []string{}}) {
		t.Error("an empty list may be nil")
	}
}

func TestThrownFramesGo(t *testing.T) {
	d := dice(1)
	got := map[bool]int{}
	for range 200000 {
		from, to := thrownFrame(&d), thrownFrame(&d)
		if d.next(2) == 0 {
			to = near(&d, from)
		}
		for _, w := range worlds(t)[:1+d.next(2)] {
			goes := types.Goes(w, from, to)
			if goes != modelGoes(w, from, to) {
				t.Fatalf("Goes(%q, %q): %v", from, to, goes)
			}
			got[goes]++
		}
	}
	if got[true] < 10000 || got[false] < 10000 {
		t.Errorf("but %v", got)
	}
}

// near is a frame for which another one may go.
func near(d *dice, f api.Frame) api.Frame {
	f = api.Frame{Locals: slices.Clone(f.Locals), Stack: slices.Clone(f.Stack)}
	for _, l := range [][]string{f.Locals, f.Stack} {
		for i, s := range l {
			switch {
			case d.next(4) == 0:
				l[i] = "T"
			case s == "N" && d.next(2) == 0:
				l[i] = oneOf(d, "LA;", "[I", "[LB;")
			case s == "LB;" && d.next(2) == 0:
				l[i] = oneOf(d, "LA;", "LObject;")
			case d.next(20) == 0:
				l[i] = oneOf(d, fewTexts()...)
			}
		}
	}
	return f
}

// P17.3: Goes is an order.

func TestGoesIsAnOrder(t *testing.T) {
	var all []api.Frame
	for _, l := range rows([]string{"T", "I", "N", "LB;", "[I", "LX;"}, 2) {
		for _, stack := range rows([]string{"T", "J", "LObject;"}, 1) {
			all = append(all, api.Frame{Locals: l, Stack: stack}, api.Frame{Locals: stack, Stack: l})
		}
	}
	for _, w := range worlds(t) {
		isOrder(t, w, all)
	}
}

func TestGoesIsAnOrderOfThrownFrames(t *testing.T) {
	d := dice(2)
	for range 2000 {
		all := []api.Frame{thrownFrame(&d)}
		for range 9 {
			all = append(all, near(&d, oneOf(&d, all...)))
		}
		isOrder(t, world(t), all)
	}
}

func isOrder(t *testing.T, w *hier.World, all []api.Frame) {
	t.Helper()
	goes := make([][]bool, len(all))
	for i, f := range all {
		for _, g := range all {
			goes[i] = append(goes[i], types.Goes(w, f, g))
		}
		itself := true
		for _, s := range slices.Concat(f.Locals, f.Stack) {
			itself = itself && types.Place(w, s, s)
		}
		if goes[i][i] != itself {
			t.Fatalf("%q goes for itself: %v", f, goes[i][i])
		}
	}
	for i := range all {
		for j := range all {
			for k := range all {
				if goes[i][j] && goes[j][k] && !goes[i][k] {
					t.Fatalf("%q goes for %q, that for %q", all[i], all[j], all[k])
				}
			}
		}
	}
}
