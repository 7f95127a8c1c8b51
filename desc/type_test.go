package desc_test

import (
	"slices"
	"strings"
	"testing"

	"carpetbag/api"
	"carpetbag/desc"
)

// texts are texts of all kinds, types or not.
func texts() []string {
	return slices.Concat(kinds(), types(), []string{"[", "[[", "[J", "[V", "[;", "[L", "L", "L;;", "LA", "LA;B", "LA;;", "La;b;", "[LA", "[L;", "LI", "A;", "IL;", " LA;", " [I", "L[I;", "I[", "JJ", "VV", "JV", "VJ", "j", "v", "J ", " J", "V ", "\x00", "ä", "Lä;", "\xff", "L\xff;", "[\xff", "()V"})
}

// P12.1: places.

func TestSlots(t *testing.T) {
	for _, x := range []struct {
		types  []string
		wanted int
	}{
		{nil, 0},
		{[]string{}, 0},
		{[]string{"J"}, 2},
		{[]string{"V"}, 0},
		{[]string{"I"}, 1},
		{[]string{"B"}, 1},
		{[]string{""}, 1},
		{[]string{"[J"}, 1},
		{[]string{"LJ;"}, 1},
		{[]string{"[V"}, 1},
		{[]string{"J", "J"}, 4},
		{[]string{"V", "V"}, 0},
		{[]string{"I", "J", "LA;"}, 4},
		{[]string{"J", "V", "I"}, 3},
		{[]string{"I", "[B", "La/B;", "J", "J", "V", "[[I"}, 8},
		{slices.Repeat([]string{"J"}, 1000), 2000},
		{slices.Repeat([]string{"V"}, 1000), 0},
		{slices.Repeat([]string{"x"}, 1000), 1000},
	} {
		if got := desc.Slots(x.types...); got != x.wanted {
			t.Errorf("Slots of %d types: %d, not %d", len(x.types), got, x.wanted)
		}
	}
	if a, b, c := desc.Slots(), desc.Slots("J", "I"), desc.Slots("I", "V", "J"); a != 0 || b != 3 || c != 3 {
		t.Error(a, b, c)
	}
}

func TestSlotsOfTexts(t *testing.T) {
	places := func(s string) int {
		return map[string]int{"J": 2, "V": 0}[s] + map[bool]int{true: 1}[s != "J" && s != "V"]
	}
	for _, a := range texts() {
		if got := desc.Slots(a); got != places(a) {
			t.Errorf("Slots(%q): %d", a, got)
		}
		for _, b := range texts() {
			if got := desc.Slots(a, b); got != places(a)+places(b) {
				t.Errorf("Slots(%q, %q): %d", a, b, got)
			}
		}
	}
}

// P12.1: references, items and classes.

func TestRefs(t *testing.T) {
	for _, s := range []string{"LA;", "[I", "[B", "[LA;", "[[I", "L", "[", "LA", "L;", "[J", "Lx", "[V", "[["} {
		if !desc.IsRef(s) {
			t.Errorf("%q is none", s)
		}
	}
	for _, s := range []string{"", "I", "J", "V", "B", "N", "T", "A", "A;", ";", " L", " [", "l", "lA;", "]", "(LA;)V", "I[", "IL", "\x00L", "-"} {
		if desc.IsRef(s) {
			t.Errorf("%q is one", s)
		}
	}
	for x := range 256 {
		for _, more := range []string{"", "A;", "I", "L", "["} {
			if s := string([]byte{byte(x)}) + more; desc.IsRef(s) != (x == 'L' || x == '[') {
				t.Errorf("IsRef(%q): %v", s, desc.IsRef(s))
			}
		}
	}
}

func TestElems(t *testing.T) {
	for s, wanted := range map[string]string{"[I": "I", "[B": "B", "[LA;": "LA;", "[[I": "[I", "[[[LA/B;": "[[LA/B;", "[": "", "[[": "[", "[J": "J", "[V": "V", "[x y": "x y", "[I[": "I["} {
		if got, ok := desc.Elem(s); got != wanted || !ok {
			t.Errorf("Elem(%q): %q, %v", s, got, ok)
		}
	}
	for _, s := range []string{"", "I", "J", "V", "B", "LA;", "L[I;", "I[", " [I", "]I", "(", "L[", "\x00["} {
		if got, ok := desc.Elem(s); got != "" || ok {
			t.Errorf("Elem(%q): %q, %v", s, got, ok)
		}
	}
	for _, s := range texts() {
		got, ok := desc.Elem(s)
		if wanted := strings.HasPrefix(s, "["); ok != wanted || wanted && "["+got != s {
			t.Errorf("Elem(%q): %q, %v", s, got, ok)
		}
		if got, ok := desc.Elem("[" + s); got != s || !ok {
			t.Errorf("Elem(%q): %q, %v", "["+s, got, ok)
		}
	}
}

func TestClasses(t *testing.T) {
	for s, wanted := range map[string]string{"LA;": "A", "La/b/C$1;": "a/b/C$1", "LL;": "L", "LLA;": "LA", "L;": "", "L;;": ";", "LA;;": "A;", "La;b;": "a;b", "L[I;": "[I", "L ;": " "} {
		if got, ok := desc.ClassOf(s); got != wanted || !ok {
			t.Errorf("ClassOf(%q): %q, %v", s, got, ok)
		}
	}
	for _, s := range []string{"", "L", ";", "A;", "LA", "lA;", "I", "J", "V", "[LA;", "[I", "[L;", "LA; ", " LA;", "LA;B", ";L", "A", "I;", "ALB;", "LA;L", ";;"} {
		if got, ok := desc.ClassOf(s); got != "" || ok {
			t.Errorf("ClassOf(%q): %q, %v", s, got, ok)
		}
	}
	for x := range 256 {
		s := string([]byte{byte(x)})
		if got, ok := desc.ClassOf(s + "A;"); ok != (x == 'L') || ok && got != "A" {
			t.Errorf("ClassOf(%q): %q, %v", s+"A;", got, ok)
		}
		if got, ok := desc.ClassOf("LA" + s); ok != (x == ';') || ok && got != "A" {
			t.Errorf("ClassOf(%q): %q, %v", "LA"+s, got, ok)
		}
	}
}

func TestObjects(t *testing.T) {
	for s, wanted := range map[string]string{"A": "LA;", "a/B": "La/B;", "": "L;", "L": "LL;", ";": "L;;", "[I": "L[I;", "ä": "Lä;"} {
		if got := desc.Object(s); got != wanted {
			t.Errorf("Object(%q): %q", s, got)
		}
	}
	for _, s := range texts() {
		if got, ok := desc.ClassOf(desc.Object(s)); got != s || !ok {
			t.Errorf("ClassOf(Object(%q)): %q, %v", s, got, ok)
		}
		if desc.IsType(desc.Object(s)) != desc.IsClass(s) || !desc.IsRef(desc.Object(s)) {
			t.Errorf("the type of %q", s)
		}
	}
}

// P12.1 and P12.2: what is printed.

func TestPrint(t *testing.T) {
	for _, x := range []struct {
		args   []string
		ret    string
		wanted string
	}{
		{nil, "V", "()V"},
		{[]string{}, "J", "()J"},
		{nil, "", "()"},
		{[]string{"I", "[B", "La/B;"}, "V", "(I[BLa/B;)V"},
		{[]string{"J", "I"}, "[[LA;", "(JI)[[LA;"},
		{[]string{"no type", "", ")"}, "x", "(no type))x"}, // whatever is told
		{slices.Repeat([]string{"I"}, 20), "I", "(IIIIIIIIIIIIIIIIIIII)I"},
	} {
		if got := desc.Print(x.args, x.ret); got != x.wanted {
			t.Errorf("Print(%q, %q): %q, not %q", x.args, x.ret, got, x.wanted)
		}
	}
}

func TestThereAndBack(t *testing.T) {
	d := dice(1)
	answers := append(types(), "V")
	for range 20000 {
		args := make([]string, d.next(18))
		for i := range args {
			args[i] = types()[d.next(len(types()))]
		}
		ret := answers[d.next(len(answers))]
		got := method(desc.Print(args, ret))
		if len(args) > api.MaxArgs {
			if !same(got, told{e: api.ErrForm}) {
				t.Fatalf("%d arguments: %v", len(args), got)
			}
			continue
		}
		if !same(got, told{args, ret, api.OK}) {
			t.Fatalf("%q and %q are told as %v", args, ret, got)
		}
	}
}

func TestThrownTexts(t *testing.T) {
	d := dice(2)
	taken := 0
	parts := append(slices.Concat(types(), kinds()), "[", "[", "(", ")", "/")
	for range 50000 {
		var s strings.Builder
		s.WriteString("(")
		for range d.next(6) {
			s.WriteString(parts[d.next(len(parts))])
		}
		s.WriteString(")")
		s.WriteString(append(types(), kinds()...)[d.next(len(types())+len(kinds()))])
		if checks(t, s.String()) {
			taken++
		}
	}
	if taken < 5000 {
		t.Errorf("but %d of the texts are methods' descriptions", taken)
	}
}

// R6: what is handed in is neither changed nor kept, and what is answered is new memory.

func TestListsAreNotShared(t *testing.T) {
	one := method("(IJLA;)V")
	two := method("(IJLA;)V")
	for i := range one.args {
		one.args[i] = "x"
	}
	_ = append(one.args, "y", "z")
	if three := method("(IJLA;)V"); !same(two, three) || !slices.Equal(two.args, []string{"I", "J", "LA;"}) {
		t.Errorf("memory is shared: %v, %v", two, three)
	}
	row := []string{"I", "J", "V", "[B", "spare"}
	if got := desc.Print(row[:3], "V"); got != "(IJV)V" {
		t.Error(got)
	}
	if got := desc.Slots(row[:3]...); got != 3 {
		t.Error(got)
	}
	if !slices.Equal(row, []string{"I", "J", "V", "[B", "spare"}) {
		t.Errorf("what was handed in changed: %q", row)
	}
}
