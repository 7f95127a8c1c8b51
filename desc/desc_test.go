package desc_test

import (
	"slices"
	"strings"
	"testing"

	"carpetbag/api"
	"carpetbag/desc"
)

// signs are all that may stand in a part of a class's name.
const signs = "ABCDEFGHIJKLMNOPQRSTUVWXYZabcdefghijklmnopqrstuvwxyz0123456789_$"

// P12.1: names of classes.

func TestNames(t *testing.T) {
	for _, s := range []string{"A", "a", "0", "_", "$", "I", "J", "V", "L", "a/B", "a/b/c/D", "java/lang/Object", "0/1", "$/_", "A$1", "_a_", "LA", "a/1", signs} {
		isName(t, s, true)
	}
	for _, s := range []string{"", "/", "//", "/a", "a/", "a//b", "/a/b", "a/b/", "a///b", "a/b//", " ", "a b", " a", "a ", "a.b", "a-b", "a;", "La;", "[I", "a[", "(", ")", "a\n", "\na", "a\x00", "\x00", "ä", "aäb", "a/ä", "Ω", "٣", "ａ", "\xff", "a\x80", "e\u0301", "\u017f", "\u212a"} {
		isName(t, s, false)
	}
}

// isName holds IsClass, and IsType of the class's type, against what is wanted.
func isName(t testing.TB, s string, wanted bool) {
	t.Helper()
	checks(t, s)
	if got := desc.IsClass(s); got != wanted {
		t.Fatalf("IsClass(%q): %v", s, got)
	}
	for _, ahead := range []string{"", "[", "[[[[[[[["} {
		if got := desc.IsType(ahead + "L" + s + ";"); got != wanted {
			t.Fatalf("IsType(%q): %v", ahead+"L"+s+";", got)
		}
	}
}

func TestEachSign(t *testing.T) {
	if len(signs) != 64 {
		t.Fatal(len(signs))
	}
	for x := range 256 {
		sign := string([]byte{byte(x)})
		may := strings.Contains(signs, sign)
		for _, name := range []string{"%", "%a", "a%", "a%b", "%/a", "a/%", "a/%/b", "a/b%c/d", "%%"} {
			isName(t, strings.ReplaceAll(name, "%", sign), may || x == '/' && (name == "a%b" || name == "a/b%c/d"))
		}
	}
}

func TestLengthsOfNames(t *testing.T) {
	for n := 1; n < 200; n++ {
		isName(t, strings.Repeat("x", n), n <= 64)
		slashes := strings.Repeat("a/", n)[:n]
		isName(t, slashes, n%2 == 1 && n <= 64)
		isName(t, strings.Repeat("/", n), false)
	}
	for at := range 65 {
		for _, n := range []int{63, 64, 65} {
			if at >= n {
				continue
			}
			b := []byte(strings.Repeat("q", n))
			b[at] = '/'
			isName(t, string(b), n <= 64 && at > 0 && at < n-1)
			b[at] = '.'
			isName(t, string(b), false)
		}
	}
	isName(t, strings.Repeat("ab/", 21)+"z", true)   // 64 bytes
	isName(t, strings.Repeat("ab/", 21)+"zz", false) // 65
	isName(t, strings.Repeat("ab/", 21), false)
	isName(t, strings.Repeat("x", 1<<20), false)
	isName(t, strings.Repeat("x/", 1<<20), false)
}

// P12.1: types.

// isType holds IsType, and what methods have it, against what is wanted.
func isType(t testing.TB, s string, wanted bool) {
	t.Helper()
	checks(t, s)
	if got := desc.IsType(s); got != wanted {
		t.Fatalf("IsType(%q): %v", s, got)
	}
	for _, x := range []struct {
		s string
		told
	}{
		{"(" + s + ")V", told{[]string{s}, "V", api.OK}},
		{"(" + s + "J)V", told{[]string{s, "J"}, "V", api.OK}},
		{"()" + s, told{nil, s, api.OK}},
	} {
		if got := method(x.s); wanted && !same(got, x.told) {
			t.Fatalf("Method(%q): %v", x.s, got)
		}
		checks(t, x.s)
	}
}

func TestTypes(t *testing.T) {
	for _, s := range types() {
		isType(t, s, true)
	}
	for _, s := range []string{"", "V", "B", "C", "Z", "i", "j", "[", "[[", "L", "L;", "LA", "A;", ";", "LA;;", "LA;I", "II", "IJ", "JJ", "[II", "[[", "[V", "[J", "[[J", "[[V", "[C", "[L", "[L;", "[LA", "I[", "J[", "LA;[", "[I[", "[I;", "I;", "L[I;", "LLA;", "LA/;", "L/A;", "LA;LB;", " I", "I ", "(I)", "()V", "lA;", "L A;", "LA\x00;", "\x00", "]I", "[]I", "I[]"} {
		isType(t, s, s == "LLA;") // the class LA
	}
}

func TestDims(t *testing.T) {
	for dims := range 20 {
		for _, kind := range kinds() {
			wanted := false
			switch kind {
			case "I", "LA;", "La/b/C$1;":
				wanted = dims <= 8
			case "B":
				wanted = 1 <= dims && dims <= 8
			case "J":
				wanted = dims == 0
			}
			isType(t, strings.Repeat("[", dims)+kind, wanted)
		}
	}
	for _, kind := range kinds() {
		if desc.IsType(strings.Repeat("[", 1<<20) + kind) {
			t.Errorf("very many dimensions of %q", kind)
		}
	}
}

func TestEachKind(t *testing.T) {
	for x := range 256 {
		kind := string([]byte{byte(x)})
		isType(t, kind, kind == "I" || kind == "J")
		isType(t, "["+kind, kind == "I" || kind == "B")
		isType(t, kind+"A;", kind == "L")
		isType(t, "["+kind+"A;", kind == "L")
		isType(t, "LA"+kind, kind == ";")
		isType(t, kind+"I", kind == "[")
		isType(t, "I"+kind, false)
		isType(t, "LA;"+kind, false)
	}
}

// P12.1: methods' descriptions.

func TestExample(t *testing.T) {
	args, ret, e := desc.Method("(I[BLa/B;)V")
	if !slices.Equal(args, []string{"I", "[B", "La/B;"}) || ret != "V" || e != api.OK {
		t.Errorf("%q, %q, %d", args, ret, e)
	}
}

func TestMethods(t *testing.T) {
	for s, wanted := range map[string]told{
		"()V":               {nil, "V", api.OK},
		"()I":               {nil, "I", api.OK},
		"()J":               {nil, "J", api.OK},
		"()[B":              {nil, "[B", api.OK},
		"()LA;":             {nil, "LA;", api.OK},
		"()[[[LA;":          {nil, "[[[LA;", api.OK},
		"(I)V":              {[]string{"I"}, "V", api.OK},
		"(IJ)I":             {[]string{"I", "J"}, "I", api.OK},
		"([I[[BI)J":         {[]string{"[I", "[[B", "I"}, "J", api.OK},
		"(LI;LJ;J)LV;":      {[]string{"LI;", "LJ;", "J"}, "LV;", api.OK},
		"([La/B;[La/B;)[I":  {[]string{"[La/B;", "[La/B;"}, "[I", api.OK},
		"(La/B;ILa/B;JJ)V":  {[]string{"La/B;", "I", "La/B;", "J", "J"}, "V", api.OK},
		"([[[[[[[[I)[[[[I":  {[]string{"[[[[[[[[I"}, "[[[[I", api.OK},
		"([[[[[[[[[I)V":     {e: api.ErrForm},
		"()[[[[[[[[[I":      {e: api.ErrForm},
		"()[[[[[[[[LA/B/C;": {nil, "[[[[[[[[LA/B/C;", api.OK},
	} {
		checks(t, s)
		if got := method(s); !same(got, wanted) {
			t.Errorf("Method(%q): %v, not %v", s, got, wanted)
		}
	}
	for _, s := range []string{"", "(", ")", "()", "V", "I", "()B", "()VV", "()IV", "()II", "()V ", " ()V", "(V)V", "(IV)V", "(B)V", "([J)V", "([V)V", "([)V", "([])V", "()[J", "()[V", "()[", "()L;", "()LA", "(L;)V", "(LA)V", "(LA)V;", "(I", "(I)", "I)V", "(IV", "I()V", "((I)V", "(()V", "()()V", "(I))V", "()V)", "(I)V)V", "(I,J)V", "(I J)V", "(I;)V", "(LA;;)V", "(La//b;)V", "()(V", ")V(", ")(V", "(LA)B;)V", "([B[)V", "[()V", "(I)v", "(i)V"} {
		checks(t, s)
		if got := method(s); !same(got, told{e: api.ErrForm}) {
			t.Errorf("Method(%q): %v, not ErrForm", s, got)
		}
	}
}

func TestHowManyArguments(t *testing.T) {
	for _, kind := range types() {
		for n := range 40 {
			s := "(" + strings.Repeat(kind, n) + ")V"
			got := method(s)
			if n > 16 {
				if !same(got, told{e: api.ErrForm}) {
					t.Fatalf("%d arguments %q: %v", n, kind, got)
				}
				continue
			}
			if wanted := slices.Repeat([]string{kind}, n); !same(got, told{wanted, "V", api.OK}) {
				t.Fatalf("%d arguments %q: %v", n, kind, got)
			}
		}
	}
	args := slices.Concat(types(), types())
	for n := range args {
		got := method("(" + strings.Join(args[:n], "") + ")J")
		if n > 16 != (got.e == api.ErrForm) || n <= 16 && !slices.Equal(got.args, args[:n]) {
			t.Fatalf("%d arguments of all kinds: %v", n, got)
		}
	}
	for _, much := range []string{"I", "[", "L", "LA;", "[[I", ")", "("} {
		s := strings.Repeat(much, 1<<20)
		for _, s := range []string{s, "(" + s, "(" + s + ")V", "()" + s, "(I" + s} {
			if got := method(s); !same(got, told{e: api.ErrForm}) {
				t.Fatalf("very many %q: %d arguments, %d", much, len(got.args), got.e)
			}
		}
	}
}

func TestCutShortAndMoreBehind(t *testing.T) {
	for _, s := range []string{"()V", "()I", "(I)J", "(I[BLa/B;)V", "(IJ[[LA;)[[I", "([B)[LA/B;", "(LA;)LB;", "(" + strings.Repeat("J", 16) + ")[B"} {
		for n := range s {
			if checks(t, s[:n]) {
				t.Fatalf("%q is a method's description", s[:n])
			}
		}
		for n := 1; n < len(s); n++ {
			if checks(t, s[n:]) {
				t.Fatalf("%q is a method's description", s[n:])
			}
		}
		if !checks(t, s) {
			t.Fatalf("%q is none", s)
		}
		for x := range 256 {
			if more := string([]byte{byte(x)}); checks(t, s+more) || checks(t, more+s) {
				t.Fatalf("%q is a method's description with %q", s, more)
			}
		}
		for _, more := range []string{"V", "LA;", "()V", s} {
			if checks(t, s+more) {
				t.Fatalf("%q is a method's description", s+more)
			}
		}
	}
}

func TestTurnedSigns(t *testing.T) {
	s := "(I[[BLa/B;J)[LC;"
	taken := 0
	for at := range s {
		for x := range 256 {
			b := []byte(s)
			b[at] = byte(x)
			if checks(t, string(b)) {
				taken++
			}
			checks(t, s[:at]+string([]byte{byte(x)})+s[at:])
		}
		for until := at; until <= len(s); until++ {
			checks(t, s[:at]+s[until:])
			checks(t, s[:until]+s[at:])
		}
	}
	if taken < 200 {
		t.Errorf("but %d of the turned ones are methods' descriptions", taken)
	}
}

func TestAllShortTexts(t *testing.T) {
	all := []string{""}
	for range 5 {
		var longer []string
		for _, s := range all {
			for _, x := range "IJBVLa[;/()" {
				longer = append(longer, s+string(x))
			}
		}
		for _, s := range longer {
			wraps(t, s)
		}
		all = longer
	}
}
