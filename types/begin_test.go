package types_test

import (
	"math"
	"slices"
	"strings"
	"testing"

	"carpetbag/api"
	"carpetbag/types"
)

// P17.1: Expand, Start and OfMap.

func TestExpandWrittenOut(t *testing.T) {
	for s, wanted := range map[string]string{
		"": "", "I": "I", "J": "J,-", "J,I": "J,-,I", "I,J": "I,J,-", "J,J": "J,-,J,-", "T,N,LJ;,[I": "T,N,LJ;,[I", "-": "-", "J,-": "J,-,-", "JJ,j,[J,J;": "JJ,j,[J,J;",
	} {
		if got := types.Expand(list(s)); !slices.Equal(got, list(wanted)) {
			t.Errorf("Expand of %q: %q", s, got)
		}
	}
	if got := types.Expand([]string{"", "J", ""}); !slices.Equal(got, []string{"", "J", "-", ""}) {
		t.Errorf("%q", got)
	}
	if got := types.Expand([]string{}); len(got) != 0 {
		t.Errorf("%q", got)
	}
}

func TestExpandOfMany(t *testing.T) {
	for _, l := range rows(fewTexts(), 4) {
		if got := types.Expand(l); !slices.Equal(got, modelExpand(l)) {
			t.Fatalf("Expand of %q: %q", l, got)
		}
	}
	if got := types.Expand(slices.Repeat([]string{"J", "I"}, 100000)); len(got) != 300000 {
		t.Error(len(got))
	}
}

// starts holds Start, with each number of locals, against what stands there ahead of the ones that are free.
func starts(t *testing.T, class string, m api.Method, wanted string) {
	t.Helper()
	args := list(wanted)
	for locals := -2; locals < len(args)+70; locals++ {
		m.Locals = locals
		f, e := types.Start(class, m)
		if locals < len(args) {
			if e != api.ErrForm || !isNone(f) {
				t.Fatalf("%q with %d locals: %q, %d", m.Desc, locals, f, e)
			}
			continue
		}
		full := slices.Concat(args, slices.Repeat([]string{"T"}, locals-len(args)))
		if e != api.OK || !same(f, api.Frame{Locals: full}) {
			t.Fatalf("%q with %d locals: %q, %d", m.Desc, locals, f, e)
		}
	}
}

func TestStartWrittenOut(t *testing.T) {
	for d, wanted := range map[string]string{
		"()V": "", "()J": "", "(I)V": "I", "(J)V": "J,-", "(IJ)V": "I,J,-", "(JI)[I": "J,-,I", "(JJ)V": "J,-,J,-", "([BLA;[[LX;)LX;": "[B,LA;,[[LX;",
		"(" + strings.Repeat("J", 16) + ")V": strings.Repeat("J,-,", 15) + "J,-",
	} {
		starts(t, "A", api.Method{Static: true, Desc: d}, wanted)
		for _, class := range []string{"A", "x/C", "X", "J", "", "a b", "[I"} {
			behind := strings.TrimSuffix("L"+class+";,"+wanted, ",")
			starts(t, class, api.Method{Desc: d}, behind)
		}
	}
}

// TestStartAsksNothingElse has all else of a method be as it may not be.
func TestStartAsksNothingElse(t *testing.T) {
	for _, stack := range []int{math.MinInt, -1, 0, 65, math.MaxInt} {
		m := api.Method{Name: "?", Desc: "(J)V", Stack: stack, Code: []api.Ins{{Op: 255}}, Traps: []api.Trap{{Class: "?"}}, Maps: []api.Map{{At: -1, Locals: []string{"?"}}}}
		starts(t, "A", m, "LA;,J,-")
	}
}

func TestStartOfNoMethod(t *testing.T) {
	for _, d := range []string{"", "V", "()", "(", "I", "(V)V", "(T)V", "(N)V", "(-)V", "([J)V", "()VV", "(L;)V", "(LA)V", "(" + strings.Repeat("I", 17) + ")V", " ()V"} {
		for _, static := range []bool{false, true} {
			for _, locals := range []int{math.MinInt, -1, 0, 1, 64, math.MaxInt} {
				if f, e := types.Start("A", api.Method{Static: static, Desc: d, Locals: locals}); e != api.ErrForm || !isNone(f) {
					t.Errorf("%q: %q, %d", d, f, e)
				}
			}
		}
	}
}

// TestLocalsThatNoMemoryHolds are refused, not laid.
func TestLocalsThatNoMemoryHolds(t *testing.T) {
	for _, locals := range []int{math.MinInt, math.MinInt + 1, math.MinInt32, math.MaxInt32, math.MaxUint32, 1 << 40, math.MaxInt - 1, math.MaxInt} {
		m := api.Method{Desc: "(J)V", Locals: locals}
		if f, e := types.Start("A", m); e != api.ErrForm || !isNone(f) {
			t.Errorf("%d locals: %d", locals, e)
		}
		if f, e := types.OfMap(world(t), m, api.Map{Locals: []string{"J"}}); e != api.ErrForm || !isNone(f) {
			t.Errorf("%d locals: %d", locals, e)
		}
	}
	if f, e := types.Start("A", api.Method{Desc: "(J)V", Locals: 100000}); e != api.OK || len(f.Locals) != 100000 || f.Locals[2] != "-" || f.Locals[99999] != "T" {
		t.Errorf("%d, %d locals", e, len(f.Locals))
	}
}

// ofMap holds OfMap, with each number of locals and places of stack, against whether it may be.
func ofMap(t *testing.T, inWorld, inNone bool, locals, stack string) {
	t.Helper()
	x := api.Map{At: -1, Locals: list(locals), Stack: list(stack)}
	wanted := api.Frame{Locals: modelExpand(x.Locals), Stack: modelExpand(x.Stack)}
	for i, w := range worlds(t) {
		for less := -2; less < 3; less++ {
			for lessStack := -2; lessStack < 3; lessStack++ {
				m := api.Method{Desc: "?", Locals: len(wanted.Locals) + less, Stack: len(wanted.Stack) + lessStack}
				f, e := types.OfMap(w, m, x)
				if less < 0 || lessStack < 0 || !(i == 0 && inWorld || i == 1 && inNone) {
					if e != api.ErrForm || !isNone(f) {
						t.Fatalf("a map of %q, %q with %d, %d (world %d): %q, %d", locals, stack, m.Locals, m.Stack, i, f, e)
					}
					continue
				}
				full := slices.Concat(wanted.Locals, slices.Repeat([]string{"T"}, less))
				if e != api.OK || !same(f, api.Frame{Locals: full, Stack: wanted.Stack}) {
					t.Fatalf("a map of %q, %q with %d, %d (world %d): %q, %d", locals, stack, m.Locals, m.Stack, i, f, e)
				}
			}
		}
	}
}

// ofMaps has a type stand at many places of a map.
func ofMaps(t *testing.T, inWorld, inNone bool, s string) {
	t.Helper()
	ofMap(t, inWorld, inNone, s, "")
	ofMap(t, inWorld, inNone, "", s)
	ofMap(t, inWorld, inNone, s, "I,J")
	ofMap(t, inWorld, inNone, "J,T,"+s+",J", "N")
	ofMap(t, inWorld, inNone, "T", "J,"+s+",[I")
	ofMap(t, inWorld, inNone, "N,"+s, s+","+s)
}

func TestOfMapOfEachKind(t *testing.T) {
	ofMap(t, true, true, "", "")
	anyones, theWorlds, nobodys := classTypes()
	for _, s := range append(anyones, "T", "I", "J", "N") {
		ofMaps(t, true, true, s)
	}
	for _, s := range theWorlds {
		ofMaps(t, true, false, s)
	}
	for _, s := range append(nobodys, oddTexts()...) {
		if s == "" {
			continue // a list can't be told with it alone
		}
		ofMaps(t, false, false, s)
	}
	for _, s := range []string{"", "-"} {
		for _, x := range []api.Map{{Locals: []string{s}}, {Stack: []string{s}}, {Locals: []string{"J", s}}, {Stack: []string{"J", s, "I"}}} {
			if f, e := types.OfMap(world(t), api.Method{Locals: 9, Stack: 9}, x); e != api.ErrForm || !isNone(f) {
				t.Errorf("a map of %q: %q, %d", s, f, e)
			}
		}
	}
}

func TestOfMapOfManyPlaces(t *testing.T) {
	for _, n := range []int{1, 2, 31, 32, 33, 64, 65, 100} {
		ofMap(t, true, true, strings.Repeat("J,", n)+"I", strings.Repeat("I,", n)+"J")
	}
	for _, x := range []struct{ locals, stack int }{{-1, 0}, {0, -1}, {math.MinInt, 5}, {5, math.MinInt}} {
		if f, e := types.OfMap(world(t), api.Method{Locals: x.locals, Stack: x.stack}, api.Map{}); e != api.ErrForm || !isNone(f) {
			t.Errorf("%v: %q, %d", x, f, e)
		}
	}
	if f, e := types.OfMap(nil, api.Method{Stack: math.MaxInt}, api.Map{Stack: []string{"J"}}); e != api.OK || !same(f, frame("", "J,-")) {
		t.Errorf("%q, %d", f, e)
	}
}
