package jad_test

import (
	"bytes"
	"testing"
	"unsafe"

	"carpetbag/api"
	"carpetbag/jad"
)

// R6: what is handed in is neither changed nor kept, and what is answered is new memory.

// over is a text that lies over bytes, by which it can be written over.
func over(b []byte) string { return unsafe.String(unsafe.SliceData(b), len(b)) }

func TestParsedIsNewMemory(t *testing.T) {
	row := []byte("ahead" + gameText + "behind")
	s := over(row[5 : 5+len(gameText)])
	one, e := jad.Parse(s)
	two, _ := jad.Parse(s)
	if e != api.OK || one != game() || string(row) != "ahead"+gameText+"behind" {
		t.Fatalf("%v, %d, or what was handed in changed: %q", one, e, row)
	}
	clear(row)
	if one != game() || two != game() {
		t.Errorf("memory is shared: %v, %v", one, two)
	}
	if n := len(one.Name) + len(one.Main); n != 7 {
		t.Errorf("%d bytes", n)
	}
}

func TestVersionIsNewMemory(t *testing.T) {
	row := []byte("12.34.56")
	one, e := jad.ParseVersion(over(row))
	if e != api.OK || string(row) != "12.34.56" {
		t.Fatalf("%d, %q", e, row)
	}
	clear(row)
	two, _ := jad.ParseVersion("12.34.56")
	if one[0]++; one != (api.Version{13, 34, 56}) || two != (api.Version{12, 34, 56}) {
		t.Errorf("memory is shared: %d, %d", one, two)
	}
}

func TestPrintedIsNewMemory(t *testing.T) {
	name, main := []byte("game"), []byte("a/B")
	j := game()
	j.Name, j.Main = over(name), over(main)
	one, e := jad.Print(j)
	if e != api.OK || jad.Check(j) != api.OK || j != game() {
		t.Fatalf("%d, or what was handed in changed: %v", e, j)
	}
	for i := range j.Hash {
		j.Hash[i] = 0xee
	}
	j.Version, j.Size = api.Version{9, 9, 9}, 1
	copy(name, "xxxx")
	copy(main, "yyy")
	if one != gameText {
		t.Errorf("memory is shared: %q", one)
	}
	// Nor was anything kept.
	if two, e := jad.Print(game()); e != api.OK || two != gameText {
		t.Errorf("what was handed in is kept: %q, %d", two, e)
	}
}

func TestVersionsAreNotChanged(t *testing.T) {
	a, b := api.Version{1, 2, 3}, api.Version{1, 3, 2}
	for range 2 {
		if jad.Cmp(a, b) != -1 || jad.Cmp(b, a) != 1 || jad.PrintVersion(a) != "1.2.3" {
			t.Error("versions are told otherwise")
		}
	}
	if a != (api.Version{1, 2, 3}) || b != (api.Version{1, 3, 2}) {
		t.Errorf("what was handed in changed: %d, %d", a, b)
	}
}

// TestParsedDontShare changes one answer, and asks once more.
func TestParsedDontShare(t *testing.T) {
	b := []byte(gameText)
	for range 3 {
		j, e := jad.Parse(string(b))
		if e != api.OK || j != game() || !bytes.Equal(b, []byte(gameText)) {
			t.Fatalf("%v, %d", j, e)
		}
		j.Hash[0], j.Version[2], j.Size, j.Name = 1, 7, 0, "x"
	}
}

// TestCallsDontDependOnOneAnother asks once more behind what is refused.
func TestCallsDontDependOnOneAnother(t *testing.T) {
	for range 3 {
		isGame(t, gameText)
		refuses(t, gameText+gameText)
		refuses(t, gameText[:40])
		refuses(t, text(gameLines()[1:]))
		refuses(t, with(4, "Hash: 00"))
		mayNot(t, api.Jad{})
		may(t, game(), gameText)
	}
}
