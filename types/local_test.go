package types_test

import (
	"math"
	"testing"

	"carpetbag/api"
	"carpetbag/hier"
	"carpetbag/types"
)

// P17.1: Load and Store.

// loads holds Load against the model.
func loads(t testing.TB, w *hier.World, f api.Frame, at int, s string) bool {
	t.Helper()
	wanted, ok := modelLoad(w, f, at, s)
	if got, is := types.Load(w, f, at, s); is != ok || got != wanted {
		t.Fatalf("Load(%q, %d, %q): %q, %v", f, at, s, got, is)
	}
	return ok
}

// stores holds Store against the model.
func stores(t testing.TB, f api.Frame, at int, s string) bool {
	t.Helper()
	wanted, ok := modelStore(f, at, s)
	if got, is := types.Store(f, at, s); is != ok || !same(got, wanted) {
		t.Fatalf("Store(%q, %d, %q): %q, %v", f, at, s, got, is)
	}
	return ok
}

// beyond are no places of n locals.
func beyond(n int) []int {
	return []int{-1, -2, n, n + 1, n + 2, 64, 65, 1 << 20, math.MinInt, math.MinInt + 1, math.MinInt32, math.MaxInt32, math.MaxInt - 1, math.MaxInt}
}

func TestLoadWrittenOut(t *testing.T) {
	w := world(t)
	f := frame("I,J,-,N,LB;,[I,T,LX;", "J,-,I")
	for _, x := range []struct {
		at     int
		s      string
		wanted string
	}{
		{0, "I", "I"}, {0, "1", "I"}, {1, "J", "J"}, {3, "A", "N"}, {3, "N", "N"}, {3, "LA;", "N"}, {3, "1", "N"}, {4, "A", "LB;"}, {4, "LA;", "LB;"}, {4, "LObject;", "LB;"}, {5, "A", "[I"}, {5, "[I", "[I"}, {5, "LObject;", "[I"}, {7, "A", "LX;"}, {7, "1", "LX;"}, {0, "T", "I"},
	} {
		if got, ok := types.Load(w, f, x.at, x.s); got != x.wanted || !ok {
			t.Errorf("%q at %d: %q, %v", x.s, x.at, got, ok)
		}
	}
	for _, x := range []struct {
		at int
		s  string
	}{
		{0, "J"}, {0, "A"}, {0, "N"}, {1, "I"}, {1, "1"}, {1, "A"}, {1, "-"}, {2, "J"}, {2, "-"}, {2, "1"}, {2, "T"}, {2, "I"}, {2, "A"}, {3, "I"}, {3, "J"}, {4, "Lx/C;"}, {4, "N"}, {5, "[B"}, {6, "T"}, {6, "1"}, {6, "A"}, {6, "I"}, {7, "LX;"}, {7, "LObject;"}, {7, "J"},
	} {
		if got, ok := types.Load(w, f, x.at, x.s); got != "" || ok {
			t.Errorf("%q at %d: %q, %v", x.s, x.at, got, ok)
		}
	}
	for _, at := range beyond(8) {
		for _, s := range []string{"I", "J", "A", "1", "T", "-", "LX;", "N"} {
			if got, ok := types.Load(w, f, at, s); got != "" || ok {
				t.Errorf("%q at %d: %q, %v", s, at, got, ok)
			}
		}
	}
	for _, s := range []string{"J", "J,I", "J,T", "-,J", "J,J"} {
		for at := range 2 {
			if got, ok := types.Load(w, frame(s, ""), at, "J"); got != "" || ok {
				t.Errorf("half a long at %d of %q: %q, %v", at, s, got, ok)
			}
		}
	}
}

func TestStoreWrittenOut(t *testing.T) {
	for _, x := range []struct {
		locals string
		at     int
		s      string
		wanted string
	}{
		{"T", 0, "I", "I"}, {"I", 0, "N", "N"}, {"I,I,I", 1, "LA;", "I,LA;,I"}, {"I,I,I", 2, "[I", "I,I,[I"},
		{"T,T", 0, "J", "J,-"}, {"T,T,T", 1, "J", "T,J,-"}, {"I,I,I", 0, "J", "J,-,I"},
		// Over a long's first place, its second, and both.
		{"J,-", 0, "I", "I,T"}, {"J,-", 1, "I", "T,I"}, {"J,-", 0, "J", "J,-"},
		{"I,J,-,I", 1, "N", "I,N,T,I"}, {"I,J,-,I", 2, "N", "I,T,N,I"}, {"I,J,-,I", 1, "J", "I,J,-,I"}, {"I,J,-,I", 0, "J", "J,-,T,I"}, {"I,J,-,I", 2, "J", "I,T,J,-"},
		{"J,-,J,-", 1, "J", "T,J,-,T"}, {"J,-,J,-", 1, "I", "T,I,J,-"}, {"J,-,J,-", 2, "I", "J,-,I,T"}, {"J,-,J,-", 0, "J", "J,-,J,-"}, {"J,-,J,-", 2, "J", "J,-,J,-"}, {"J,-,J,-,I", 3, "J", "J,-,T,J,-"},
		// Halves that stand alone.
		{"J", 0, "I", "I"}, {"-", 0, "I", "I"}, {"J,I", 0, "I", "I,T"}, {"I,-", 1, "I", "T,I"}, {"-,I", 0, "J", "J,-"}, {"I,J", 0, "J", "J,-"}, {"I,J,I", 0, "J", "J,-,T"}, {"I,-,I", 1, "J", "T,J,-"}, {"J,J,J", 1, "I", "J,I,T"}, {"-,-,-", 1, "I", "T,I,-"},
		// Any text may be stored.
		{"I,I", 0, "T", "T,I"}, {"I,I", 1, "-", "I,-"}, {"J,-", 1, "-", "T,-"}, {"I", 0, "LX;", "LX;"}, {"I", 0, "?", "?"},
	} {
		if f, ok := types.Store(frame(x.locals, "J,-,I"), x.at, x.s); !ok || !same(f, frame(x.wanted, "J,-,I")) {
			t.Errorf("%q at %d of %q: %q, %v", x.s, x.at, x.locals, f, ok)
		}
	}
	for _, locals := range []string{"", "I", "T,T", "J,-", "J,-,I,N"} {
		f := frame(locals, "I")
		n := len(f.Locals)
		for _, s := range []string{"I", "J", "N", "LA;", "T", "-"} {
			for _, at := range beyond(n) {
				if g, ok := types.Store(f, at, s); ok || !isNone(g) {
					t.Errorf("%q at %d of %q: %q, %v", s, at, locals, g, ok)
				}
			}
		}
		if g, ok := types.Store(f, n-1, "J"); ok || !isNone(g) {
			t.Errorf("half a long at the end of %q: %q, %v", locals, g, ok)
		}
	}
}

func TestLocalsOfEachRow(t *testing.T) {
	got := map[bool]int{}
	places := append([]string{"A", "1"}, fewTexts()...)
	for _, l := range rows(fewTexts(), 3) {
		f := api.Frame{Locals: l, Stack: []string{"N"}}
		for at := -1; at <= len(l); at++ {
			for _, s := range places {
				for _, w := range worlds(t) {
					got[loads(t, w, f, at, s)]++
				}
				got[stores(t, f, at, s)]++
			}
		}
	}
	for _, l := range rows([]string{"I", "J", "-"}, 5) {
		for at := -1; at <= len(l); at++ {
			stores(t, api.Frame{Locals: l}, at, "J")
			stores(t, api.Frame{Locals: l}, at, "N")
		}
	}
	if got[true] < 10000 || got[false] < 10000 {
		t.Errorf("but %v", got)
	}
}

func TestLocalsOfThrownFrames(t *testing.T) {
	d := dice(5)
	all := append(texts(), "A", "1")
	w := world(t)
	for range 20000 {
		f := thrownFrame(&d)
		at, s := d.next(len(f.Locals)+2)-1, oneOf(&d, all...)
		loads(t, w, f, at, s)
		if !stores(t, f, at, s) {
			continue
		}
		// What is stored is loaded, if it goes for itself.
		g, _ := types.Store(f, at, s)
		told, ok := types.Load(w, g, at, s)
		wanted := s != "T" && s != "-" && s != "A" && s != "1" && types.Place(w, s, s) || s == "1"
		if ok != wanted || ok && told != s {
			t.Fatalf("%q stored in %q at %d: %q, %v", s, f, at, told, ok)
		}
	}
}

// TestStoreLeavesWholeLongs stores in locals whose longs are whole, whatever is stored where.
func TestStoreLeavesWholeLongs(t *testing.T) {
	d := dice(6)
	for range 2000 {
		f := api.Frame{Locals: types.Expand([]string{"J", "T", "J", "J", "I", "J"})}
		for range 30 {
			g, ok := types.Store(f, d.next(len(f.Locals)), oneOf(&d, "I", "J", "N", "T", "LA;"))
			if !ok {
				continue
			}
			f = g
			for i, s := range f.Locals {
				if s == "J" && (i == len(f.Locals)-1 || f.Locals[i+1] != "-") || s == "-" && (i == 0 || f.Locals[i-1] != "J") {
					t.Fatalf("half a long in %q", f)
				}
			}
		}
	}
}
