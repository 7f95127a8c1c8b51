package jad_test

import (
	"slices"
	"strings"
	"testing"

	"carpetbag/api"
	"carpetbag/jad"
)

// dice tells numbers that look as if thrown, the same ones each time.
type dice uint64

func (d *dice) next(below int) int {
	*d = *d*6364136223846793005 + 1442695040888963407
	return int(uint64(*d)>>33) % below
}

// oneOf is an item of a list.
func oneOf[T any](d *dice, l ...T) T { return l[d.next(len(l))] }

// game is the descriptor of most tests; its text is gameText.
func game() api.Jad {
	return api.Jad{
		Name:    "game",
		Version: api.Version{1, 20, 3},
		Main:    "a/B",
		Size:    4711,
		Hash:    [32]byte{0, 1, 2, 3, 4, 5, 6, 7, 8, 9, 10, 11, 12, 13, 14, 15, 0xf0, 0xe1, 0xd2, 0xc3, 0xb4, 0xa5, 0x96, 0x87, 0x78, 0x69, 0x5a, 0x4b, 0x3c, 0x2d, 0x1e, 0xff},
	}
}

const gameText = "Name: game\n" +
	"Version: 1.20.3\n" +
	"Main: a/B\n" +
	"Size: 4711\n" +
	"Hash: " + gameHash + "\n"

const gameHash = "000102030405060708090a0b0c0d0e0ff0e1d2c3b4a5968778695a4b3c2d1eff"

// gameLines are those of gameText, without line feeds.
func gameLines() []string {
	return []string{"Name: game", "Version: 1.20.3", "Main: a/B", "Size: 4711", "Hash: " + gameHash}
}

// text is that of lines, each with a line feed.
func text(lines []string) string { return strings.Join(append(slices.Clone(lines), ""), "\n") }

// with is gameText with another line at a place.
func with(at int, line string) string {
	l := gameLines()
	l[at] = line
	return text(l)
}

// may asks that a descriptor may be, that it has this text, and that it is parsed as it was.
func may(t *testing.T, j api.Jad, want string) {
	t.Helper()
	if e := jad.Check(j); e != api.OK {
		t.Errorf("Check of %v: %d", j, e)
	}
	s, e := jad.Print(j)
	if e != api.OK || s != want {
		t.Errorf("Print of %v: %q, %d, not %q", j, s, e, want)
	}
	parses(t, s, j)
}

// mayNot asks that a descriptor may not be, nor what would be its text.
func mayNot(t *testing.T, j api.Jad) {
	t.Helper()
	isNone(t, j)
	refuses(t, modelText(j))
}

// isNone asks that a descriptor may not be, and nothing of its text.
func isNone(t *testing.T, j api.Jad) {
	t.Helper()
	if e := jad.Check(j); e != api.ErrForm {
		t.Errorf("Check of %v: %d", j, e)
	}
	if s, e := jad.Print(j); e != api.ErrForm || s != "" {
		t.Errorf("Print of %v: %q, %d", j, s, e)
	}
}

// either asks that a descriptor may be, or may not.
func either(t *testing.T, j api.Jad, mayBe bool) {
	t.Helper()
	if mayBe {
		may(t, j, modelText(j))
	} else {
		mayNot(t, j)
	}
}

// parses asks that a text is a descriptor's.
func parses(t *testing.T, s string, want api.Jad) {
	t.Helper()
	if j, e := jad.Parse(s); e != api.OK || j != want {
		t.Errorf("Parse of %q: %v, %d, not %v", s, j, e, want)
	}
	asks(t, s)
}

// isGame asks that a text is game's.
func isGame(t *testing.T, s string) {
	t.Helper()
	parses(t, s, game())
}

// refuses asks that a text is no descriptor's.
func refuses(t *testing.T, s string) {
	t.Helper()
	if j, e := jad.Parse(s); e != api.ErrForm || j != (api.Jad{}) {
		t.Errorf("Parse of %q: %v, %d", s, j, e)
	}
	asks(t, s)
}

// orders are a list in all orders.
func orders(l []string) [][]string {
	if len(l) == 0 {
		return [][]string{nil}
	}
	var all [][]string
	for i, first := range l {
		for _, rest := range orders(slices.Concat(l[:i], l[i+1:])) {
			all = append(all, append([]string{first}, rest...))
		}
	}
	return all
}
