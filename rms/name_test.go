package rms_test

import (
	"slices"
	"strings"
	"testing"

	"carpetbag/api"
	"carpetbag/blob"
	"carpetbag/rms"
)

// notNames are texts that are no names.
func notNames() []string {
	l := []string{"", strings.Repeat("a", 17), strings.Repeat("a", 1000), "a b", " a", "a ", "a/b", "/", "A", "aB", "a.b", "ä", "aä",
		"a\x00", "\x00", "a\n", "\xff", "a\xff", "a:", "a`", "a{", "K", "ſ", "１", "a,b"}
	for b := range 256 {
		if !strings.ContainsRune("abcdefghijklmnopqrstuvwxyz0123456789_-", rune(b)) {
			l = append(l, string([]byte{byte(b)}))
		}
	}
	return l
}

// P9.1: names are of 1 to 16 signs.
func TestIsNameLengths(t *testing.T) {
	for n := range 70 {
		for _, sign := range []string{"a", "z", "0", "9", "_", "-"} {
			if got, want := rms.IsName(strings.Repeat(sign, n)), 1 <= n && n <= 16; got != want {
				t.Errorf("IsName of %d times %q: %v", n, sign, got)
			}
		}
	}
}

// P9.1: each sign, wherever it stands.
func TestIsNameSigns(t *testing.T) {
	for b := range 256 {
		want := 'a' <= b && b <= 'z' || '0' <= b && b <= '9' || b == '_' || b == '-'
		sign := string([]byte{byte(b)})
		for _, s := range []string{sign, sign + "a", "a" + sign, "a" + sign + "a", strings.Repeat("a", 15) + sign, sign + strings.Repeat("0", 15)} {
			if rms.IsName(s) != want {
				t.Errorf("IsName(%q): %v", s, !want)
			}
		}
	}
	for _, s := range notNames() {
		if rms.IsName(s) {
			t.Errorf("IsName(%q): true", s)
		}
	}
	// A sign beyond a byte counts by its bytes, none of which goes, also where its lowest one does.
	for _, s := range []string{"š", "a\u0161", "\u012d", "\u015f", "\u0130", strings.Repeat("ä", 8)} {
		if rms.IsName(s) {
			t.Errorf("IsName(%q): true", s)
		}
	}
}

func TestKey(t *testing.T) {
	for _, x := range []struct{ suite, name, want string }{
		{"a", "b", "r/a/b"},
		{"game", "high-scores", "r/game/high-scores"},
		{"-", "_", "r/-/_"},
		{strings.Repeat("x", 16), strings.Repeat("9", 16), "r/xxxxxxxxxxxxxxxx/9999999999999999"},
	} {
		if got := rms.Key(x.suite, x.name); got != x.want {
			t.Errorf("Key(%q, %q): %q", x.suite, x.name, got)
		}
	}
}

// P9.1: a store stands under its key, as its bytes.
func TestStandsUnderItsKey(t *testing.T) {
	s, _ := roomy(t)
	create(t, s, "game", "data")
	if b, ok := s.Get("r/game/data"); !ok || string(b) != "\x00\x00\x00\x01\x00\x00\x00\x00\x00\x00" {
		t.Errorf("% x, %v", b, ok)
	}
	add(t, s, "game", "data", "xy", 1)
	if b, ok := s.Get("r/game/data"); !ok || string(b) != "\x00\x00\x00\x02\x00\x00\x00\x01\x00\x01\x00\x00\x00\x01\x00\x02xy" {
		t.Errorf("% x, %v", b, ok)
	}
	if got := s.Keys(""); !slices.Equal(got, []string{"r/game/data"}) {
		t.Errorf("%q", got)
	}
}

// P9.1: the names of a suite, in order, of no other suite, and of nothing else.
func TestNames(t *testing.T) {
	s, _ := roomy(t)
	for _, p := range []place{{"a", "z"}, {"a", "b"}, {"a", "-"}, {"a", "_"}, {"a", "0"}, {"a", "bb"}, {"a", "b-"}, {"ab", "c"}, {"a-", "d"}, {"aa", "e"}, {"b", "a"}, {"r", "f"}} {
		create(t, s, p.suite, p.name)
	}
	for _, key := range []string{"r", "r/", "r/a", "r/c", "ra/g", "p/a/00000001/0000", "s/a", "d/job", "R/a/h", "x/r/a/i"} {
		put(t, s, key, []byte{1})
	}
	for suite, want := range map[string][]string{
		"a": {"-", "0", "_", "b", "b-", "bb", "z"}, "ab": {"c"}, "a-": {"d"}, "aa": {"e"}, "b": {"a"}, "r": {"f"}, "c": {}, "aaa": {}, "0": {},
	} {
		if got := rms.Names(s, suite); !slices.Equal(got, want) {
			t.Errorf("Names(%q): %q, want %q", suite, got, want)
		}
	}
}

// A suite whose name is none has no stores, whatever stands under such keys.
func TestNamesOfNone(t *testing.T) {
	s, _ := roomy(t)
	create(t, s, "a", "b")
	empty, _ := rms.Bytes(api.Records{Next: 1})
	for _, suite := range notNames() {
		if key := "r/" + suite + "/b"; len(key) <= api.MaxKey {
			put(t, s, key, empty)
		}
		if got := rms.Names(s, suite); len(got) != 0 {
			t.Errorf("Names(%q): %q", suite, got)
		}
	}
	if got := rms.Names(s, "a"); !slices.Equal(got, []string{"b"}) {
		t.Errorf("Names: %q", got)
	}
}

// A key that goes on with what is no name is no record store's, and doesn't count among them.
func TestNamesThatAreNone(t *testing.T) {
	s, _ := roomy(t)
	for _, key := range []string{"r/a/", "r/a/B", "r/a/b/c", "r/a//", "r/a/" + strings.Repeat("c", 17), "r/a/c d", "r/a/\xff"} {
		put(t, s, key, []byte{0, 0, 0, 1, 0, 0, 0, 0, 0, 0})
	}
	if got := rms.Names(s, "a"); len(got) != 0 {
		t.Errorf("Names: %q", got)
	}
	for i := range api.MaxStores {
		create(t, s, "a", string(rune('a'+i)))
	}
	if got := rms.Names(s, "a"); !slices.Equal(got, []string{"a", "b", "c", "d", "e", "f", "g", "h"}) {
		t.Errorf("Names: %q", got)
	}
}

// A store whose blob is none is there, and has its name.
func TestNamesOfBrokenStores(t *testing.T) {
	s, _ := roomy(t)
	put(t, s, "r/a/b", nil)
	put(t, s, "r/a/c", []byte("no record store"))
	create(t, s, "a", "d")
	if got := rms.Names(s, "a"); !slices.Equal(got, []string{"b", "c", "d"}) {
		t.Errorf("Names: %q", got)
	}
}

// What Names answers is the asker's.
func TestNamesAreNew(t *testing.T) {
	s, _ := roomy(t)
	create(t, s, "a", "b")
	create(t, s, "a", "c")
	l := rms.Names(s, "a")
	l[0], l[1] = "x", "y"
	if got := rms.Names(s, "a"); !slices.Equal(got, []string{"b", "c"}) {
		t.Errorf("Names: %q", got)
	}
}

// P9.1: each call but Names answers ErrName of a name that is none, whatever else is wrong.
func TestNoNames(t *testing.T) {
	s, f := roomy(t)
	create(t, s, "a", "b")
	for _, name := range notNames() {
		for _, p := range []place{{name, "b"}, {"a", name}, {name, name}, {name, "missing"}, {"missing", name}} {
			if key := rms.Key(p.suite, p.name); len(key) <= api.MaxKey {
				put(t, s, key, []byte("no record store"))
			}
			before := bytesOf(t, f)
			for _, store := range []*blob.Store{s, nil} {
				eachAnswers(t, store, p, api.ErrName)
			}
			if string(bytesOf(t, f)) != string(before) {
				t.Fatalf("%q: what was refused changed the flash", p)
			}
		}
	}
	if len(rms.Names(s, "a")) != 1 {
		t.Errorf("Names: %q", rms.Names(s, "a"))
	}
}

// eachAnswers holds each call that may be refused against an error, with data that is too long and an ID that isn't there.
func eachAnswers(t *testing.T, s *blob.Store, p place, want api.Errno) {
	t.Helper()
	callAnswers(t, s, p, true, want)
	callAnswers(t, s, p, false, want)
	for _, data := range [][]byte{nil, make([]byte, 512), make([]byte, 513)} {
		if id, e := rms.Add(s, p.suite, p.name, data); id != 0 || e != want {
			t.Errorf("Add(%q) of %d bytes: %d, %d, want %d", p, len(data), id, e, want)
		}
		for _, id := range []uint32{0, 1, 1<<32 - 1} {
			if e := rms.Set(s, p.suite, p.name, id, data); e != want {
				t.Errorf("Set(%q, %d) of %d bytes: %d, want %d", p, id, len(data), e, want)
			}
		}
	}
	for _, id := range []uint32{0, 1, 1<<32 - 1} {
		if e := rms.Delete(s, p.suite, p.name, id); e != want {
			t.Errorf("Delete(%q, %d): %d, want %d", p, id, e, want)
		}
		if b, e := rms.Get(s, p.suite, p.name, id); b != nil || e != want {
			t.Errorf("Get(%q, %d): %v, %d, want %d", p, id, b, e, want)
		}
	}
	// Of a blob that is none Drop answers otherwise.
	if want != api.ErrForm {
		if e := rms.Drop(s, p.suite, p.name); e != want {
			t.Errorf("Drop(%q): %d, want %d", p, e, want)
		}
	}
}

// callAnswers holds Open against an error; what isn't there is made if that is asked.
func callAnswers(t *testing.T, s *blob.Store, p place, create bool, want api.Errno) {
	t.Helper()
	if create && want == api.ErrMissing {
		return
	}
	if r, e := rms.Open(s, p.suite, p.name, create); !same(r, api.Records{}) || r.List != nil || e != want {
		t.Errorf("Open(%q, %v): %v, %d, want %d", p, create, r, e, want)
	}
}
