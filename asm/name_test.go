package asm_test

import (
	"strings"
	"testing"

	"carpetbag/api"
	"carpetbag/asm"
)

// P15.1: what IsName answers, and which names members may have.

// namesHeld asks IsName, and whether a field, a method and an instruction's member may have a name, in a unit and in a class.
func namesHeld(t testing.TB, s string) {
	t.Helper()
	wanted := modelName(s)
	if got := asm.IsName(s); got != wanted {
		t.Fatalf("IsName of %q: %v", s, got)
	}
	units := []api.Unit{
		{Name: "A", Fields: []api.Field{{Name: s, Desc: "I"}}},
		{Name: "A", Methods: []api.Method{{Name: s, Desc: "()V", Code: []api.Ins{{Op: 177}}}}},
		unitOf(api.Ins{Op: 178, Class: "A", Name: s, Desc: "I"}),
		unitOf(api.Ins{Op: 184, Class: "A", Name: s, Desc: "()V"}),
	}
	for _, u := range units {
		if judged(t, u) != wanted {
			t.Fatalf("a name %q", s)
		}
	}
	f := eachFile()
	f.Pool[7].S = s
	if e := read(t, f); (e == api.OK) != wanted {
		t.Fatalf("a name %q of a class: %d", s, e)
	}
}

func TestNamesWrittenOut(t *testing.T) {
	for s, wanted := range map[string]bool{
		"": false, "a": true, "Z": true, "0": true, "_": true, "$": true, "main": true, "a1_$Z": true, "9": true,
		"/": false, "a/b": false, "/a": false, "a/": false, "<init>": false, "a.b": false, "a b": false, "a-b": false, "é": false, "a\x00": false, "a;": false, "[a": false, "a\n": false,
		strings.Repeat("a", 64): true, strings.Repeat("$", 65): false,
	} {
		if got := asm.IsName(s); got != wanted {
			t.Errorf("IsName of %q: %v", s, got)
		}
		namesHeld(t, s)
	}
}

func TestNamesOfEachLength(t *testing.T) {
	for n := range 130 {
		namesHeld(t, strings.Repeat("x", n))
	}
	namesHeld(t, strings.Repeat("x", 1000))
	namesHeld(t, strings.Repeat("x", 65535))
	namesHeld(t, strings.Repeat("x", 65536))
}

func TestNamesOfEachByte(t *testing.T) {
	for x := range 256 {
		s := string([]byte{byte(x)})
		long := strings.Repeat("b", 31)
		for _, name := range []string{s, s + "a", "a" + s, "a" + s + "a", s + s, long + s + long + "b", long + long + "b" + s, s + long + long + "b", long + long + "bb" + s} {
			namesHeld(t, name)
		}
	}
}

func TestNamesOfTwoBytes(t *testing.T) {
	for x := range 1 << 16 {
		s := string([]byte{byte(x >> 8), byte(x)})
		if asm.IsName(s) != modelName(s) {
			t.Fatalf("IsName of %q: %v", s, asm.IsName(s))
		}
	}
}
