package types_test

import (
	"math"
	"slices"
	"testing"

	"carpetbag/api"
	"carpetbag/hier"
	"carpetbag/types"
)

// P17.1: Push and Pop.

// pushes holds Push against the model.
func pushes(t testing.TB, f api.Frame, s string, most int) {
	t.Helper()
	wanted, ok := modelPush(f, s, most)
	if got, is := types.Push(f, s, most); is != ok || !same(got, wanted) {
		t.Fatalf("Push(%q, %q, %d): %q, %v", f, s, most, got, is)
	}
}

// pops holds Pop against the model.
func pops(t testing.TB, w *hier.World, f api.Frame, s string) bool {
	t.Helper()
	wanted, told, ok := modelPop(w, f, s)
	got, is, gotOK := types.Pop(w, f, s)
	if gotOK != ok || is != told || !same(got, wanted) {
		t.Fatalf("Pop(%q, %q): %q, %q, %v", f, s, got, is, gotOK)
	}
	return ok
}

func TestPushWrittenOut(t *testing.T) {
	for _, x := range []struct {
		stack, s string
		most     int
		wanted   string
	}{
		{"", "I", 1, "I"}, {"I", "I", 2, "I,I"}, {"", "J", 2, "J,-"}, {"I", "J", 3, "I,J,-"}, {"J,-", "I", 3, "J,-,I"}, {"J,-", "J", 4, "J,-,J,-"}, {"", "N", 64, "N"}, {"T", "LX;", 2, "T,LX;"}, {"", "[I", 9, "[I"}, {"I,I,I", "?", 4, "I,I,I,?"}, {"", "V", 1, "V"}, {"", "A", 1, "A"},
	} {
		if f, ok := types.Push(frame("I,T", x.stack), x.s, x.most); !ok || !same(f, frame("I,T", x.wanted)) {
			t.Errorf("%q on %q: %q, %v", x.s, x.stack, f, ok)
		}
		for _, most := range []int{x.most - 1, 0, -1, math.MinInt} {
			pushes(t, frame("I,T", x.stack), x.s, most)
		}
	}
	for _, x := range []struct {
		stack, s string
		most     int
	}{
		{"", "I", 0}, {"I", "I", 1}, {"", "J", 1}, {"", "J", 0}, {"I", "J", 2}, {"I,I,I", "I", 2}, {"", "I", -1}, {"", "I", math.MinInt},
		{"", "T", 9}, {"", "-", 9}, {"J", "-", 9}, {"I", "T", 9}, {"", "T", math.MaxInt}, {"J", "-", math.MaxInt},
	} {
		if f, ok := types.Push(frame("I,T", x.stack), x.s, x.most); ok || !isNone(f) {
			t.Errorf("%q on %q of %d: %q, %v", x.s, x.stack, x.most, f, ok)
		}
	}
}

func TestPushOfEachText(t *testing.T) {
	for _, s := range texts() {
		for n := range 5 {
			for _, most := range []int{math.MinInt, -1, 0, 1, 2, 3, 4, 5, 6, 7, 64, math.MaxInt} {
				pushes(t, frame("", "I,J,-,T"[:max(0, 2*n-1)]), s, most)
				pushes(t, api.Frame{Locals: []string{"J", "-"}, Stack: slices.Repeat([]string{s}, n)}, s, most)
			}
		}
	}
}

func TestPopWrittenOut(t *testing.T) {
	w := world(t)
	for _, x := range []struct{ stack, s, wanted, told string }{
		{"I", "I", "", "I"}, {"T,I", "I", "T", "I"}, {"J,-,I", "I", "J,-", "I"},
		{"J,-", "J", "", "J"}, {"I,J,-", "J", "I", "J"}, {"J,-,J,-", "J", "J,-", "J"},
		{"N", "N", "", "N"}, {"N", "LA;", "", "N"}, {"N", "[I", "", "N"}, {"LB;", "LA;", "", "LB;"}, {"LB;", "LObject;", "", "LB;"}, {"[I", "[I", "", "[I"}, {"[I", "LObject;", "", "[I"}, {"I,[LB;", "[LA;", "I", "[LB;"},
		{"N", "A", "", "N"}, {"LA;", "A", "", "LA;"}, {"[I", "A", "", "[I"}, {"LX;", "A", "", "LX;"}, {"[LX;", "A", "", "[LX;"}, {"L", "A", "", "L"}, {"[", "A", "", "["}, {"Lx", "A", "", "Lx"},
		{"I", "1", "", "I"}, {"N", "1", "", "N"}, {"LA;", "1", "", "LA;"}, {"LX;", "1", "", "LX;"}, {"[B", "1", "", "[B"}, {"V", "1", "", "V"}, {"A", "1", "", "A"}, {"1", "1", "", "1"},
		{"V", "V", "", "V"}, {"I", "T", "", "I"}, {"LX;", "T", "", "LX;"}, // any goes for "T"
	} {
		if f, told, ok := types.Pop(w, frame("J,-", x.stack), x.s); !ok || told != x.told || !same(f, frame("J,-", x.wanted)) {
			t.Errorf("%q of %q: %q, %q, %v", x.s, x.stack, f, told, ok)
		}
	}
	for _, x := range [][2]string{
		{"", "I"}, {"", "J"}, {"", "A"}, {"", "1"}, {"", "T"}, {"", "-"}, {"", ""},
		{"J", "I"}, {"J,-", "I"}, {"I", "J"}, {"I,I", "J"}, {"J", "J"}, {"-", "J"}, {"I,-", "J"}, {"T,-", "J"}, {"-,-", "J"}, {"J,I", "J"}, {"J,T", "J"}, {"J,-,I", "J"}, {"-,J", "J"}, {"J,J", "J"},
		{"T", "T"}, {"T", "I"}, {"T", "J"}, {"I,T", "J"}, {"T", "A"}, {"T", "1"}, {"T", "N"}, {"T", "LObject;"}, {"T", "-"},
		{"-", "-"}, {"-", "T"}, {"-", "1"}, {"-", "A"}, {"-", "I"}, {"J,-", "-"}, {"J,-", "T"}, {"J,-", "1"}, {"J,-", "A"}, {"I", "-"},
		{"J", "1"}, {"J", "A"}, {"J", "-"},
		{"I", "A"}, {"V", "A"}, {"A", "A"}, {"NN", "A"}, {"I", "N"}, {"N", "I"}, {"LA;", "N"}, {"LA;", "LB;"}, {"LObject;", "[I"}, {"[I", "[B"}, {"LX;", "LX;"}, {"LX;", "LObject;"}, {"N", "LX;"}, {"I", "LObject;"}, {"I", "V"},
		{"I,N", "I"}, {"N,I", "A"}, // the top alone is asked
	} {
		if f, told, ok := types.Pop(w, frame("J,-", x[0]), x[1]); ok || told != "" || !isNone(f) {
			t.Errorf("%q of %q: %q, %q, %v", x[1], x[0], f, told, ok)
		}
	}
}

func TestPopOfEachStack(t *testing.T) {
	got := map[bool]int{}
	for _, w := range worlds(t) {
		for _, stack := range rows(fewTexts(), 3) {
			for _, s := range append(fewTexts(), "A", "1", "LObject;", "V") {
				got[pops(t, w, api.Frame{Locals: []string{"I"}, Stack: stack}, s)]++
			}
		}
		for _, a := range texts() {
			for _, s := range texts() {
				got[pops(t, w, api.Frame{Stack: []string{a}}, s)]++
				got[pops(t, w, api.Frame{Stack: []string{"I", "J", a}}, s)]++
			}
		}
	}
	if got[true] < 3000 || got[false] < 3000 {
		t.Errorf("but %v", got)
	}
}

func TestPopWithoutAWorld(t *testing.T) {
	for _, x := range [][2]string{{"I", "I"}, {"J,-", "J"}, {"N", "[I"}, {"N", "A"}, {"[I", "[I"}, {"LA;", "A"}, {"LA;", "1"}} {
		if _, _, ok := types.Pop(nil, frame("", x[0]), x[1]); !ok {
			t.Errorf("%q of %q", x[1], x[0])
		}
	}
	for _, x := range [][2]string{{"LA;", "LA;"}, {"LObject;", "LObject;"}, {"[I", "LObject;"}, {"N", "LObject;"}, {"[LA;", "[LA;"}} {
		if _, _, ok := types.Pop(nil, frame("", x[0]), x[1]); ok {
			t.Errorf("%q of %q", x[1], x[0])
		}
	}
}

// P17.2: what is pushed is popped, and the frame is as it was.

func TestPushedIsPopped(t *testing.T) {
	d := dice(3)
	for range 2000 {
		f := thrownFrame(&d)
		for _, w := range worlds(t) {
			for _, s := range texts() {
				g, ok := types.Push(f, s, len(f.Stack)+2)
				if s == "T" || s == "-" {
					continue
				}
				if !ok {
					t.Fatalf("%q isn't pushed on %q", s, f)
				}
				kinds := []string{s, "1", "A"}
				if s == "J" {
					kinds = kinds[:1]
				}
				for _, kind := range kinds {
					back, told, ok := types.Pop(w, g, kind)
					// "A" and "1" ask for what they are, else what is of the world goes for itself.
					wanted := types.Place(w, s, s)
					switch kind {
					case "A":
						wanted = s == "N" || s != "" && (s[0] == 'L' || s[0] == '[')
					case "1":
						wanted = true
					}
					if ok != wanted || ok && (told != s || !same(back, f)) {
						t.Fatalf("%q pushed on %q, popped as %q: %q, %q, %v", s, f, kind, back, told, ok)
					}
				}
			}
		}
	}
}

// TestManyArePushedAndPopped goes up to the most, and down again.
func TestManyArePushedAndPopped(t *testing.T) {
	d := dice(4)
	w := world(t)
	for range 500 {
		fs := []api.Frame{{Locals: thrownRow(&d, 6)}}
		var pushed []string
		for {
			s := oneOf(&d, "I", "J", "J", "N", "LA;", "[I", "[[LB;")
			f, ok := types.Push(fs[len(fs)-1], s, 64)
			if !ok {
				break
			}
			pushed = append(pushed, s)
			fs = append(fs, f)
		}
		if n := len(fs[len(fs)-1].Stack); n < 63 || n > 64 {
			t.Fatalf("%d places", n)
		}
		f := fs[len(fs)-1]
		for i := len(pushed) - 1; i >= 0; i-- {
			g, told, ok := types.Pop(w, f, pushed[i])
			if !ok || told != pushed[i] || !same(g, fs[i]) {
				t.Fatalf("%q of %q: %q, %q, %v", pushed[i], f, g, told, ok)
			}
			f = g
		}
	}
}
