package utf_test

import (
	"bytes"
	"slices"
	"testing"

	"carpetbag/api"
	"carpetbag/utf"
)

// modelUnit is a unit's bytes, as the chapter's words go.
func modelUnit(u int) []byte {
	if 1 <= u && u <= 127 {
		return []byte{byte(u)}
	}
	if u == 0 || 128 <= u && u <= 2047 {
		return []byte{byte(192 + u/64), byte(128 + u%64)}
	}
	return []byte{byte(224 + u/4096), byte(128 + u/64%64), byte(128 + u%64)}
}

// modelBytes are a text's bytes.
func modelBytes(l []uint16) []byte {
	var b []byte
	for _, u := range l {
		b = append(b, modelUnit(int(u))...)
	}
	return b
}

// model tells the text of bytes by the bytes of all units there are.
type model map[string]uint16

// newModel knows each unit.
func newModel() model {
	m := model{}
	for u := range 1 << 16 {
		m[string(modelUnit(u))] = uint16(u)
	}
	return m
}

// texts are all texts whose bytes b is: the promises want it to be one at most.
func (m model) texts(b []byte) [][]uint16 {
	if len(b) == 0 {
		return [][]uint16{nil}
	}
	var all [][]uint16
	for n := 1; n <= min(3, len(b)); n++ {
		u, ok := m[string(b[:n])]
		if !ok {
			continue
		}
		for _, behind := range m.texts(b[n:]) {
			all = append(all, append([]uint16{u}, behind...))
		}
	}
	return all
}

// modelPlain is what Plain has to answer.
func modelPlain(b []byte) bool {
	return !slices.ContainsFunc(b, func(x byte) bool { return x < 1 || x > 127 })
}

// decodes holds all calls against the text that bytes have.
func decodes(t testing.TB, b []byte, wanted []uint16) {
	t.Helper()
	whole := bytes.Clone(b)
	if l, e := utf.Decode(b); !slices.Equal(l, wanted) || e != api.OK {
		t.Fatalf("Decode(% x): %x, %d, not %x", b, l, e, wanted)
	}
	if n, e := utf.Len(b); n != len(wanted) || e != api.OK {
		t.Fatalf("Len(% x): %d, %d, not %d", b, n, e, len(wanted))
	}
	// Each byte of a plain text is a unit of its own, and none of another.
	if got := utf.Plain(b); got != modelPlain(b) || got && len(wanted) != len(b) {
		t.Fatalf("Plain(% x): %v, of %d units", b, got, len(wanted))
	}
	if got := utf.Encode(wanted); !bytes.Equal(got, b) {
		t.Fatalf("Encode(%x): % x, not % x", wanted, got, b)
	}
	if !bytes.Equal(b, whole) {
		t.Fatalf("what was handed in changed: % x, was % x", b, whole)
	}
}

// refuses asks whether all calls refuse bytes that no text has.
func refuses(t testing.TB, b []byte) {
	t.Helper()
	whole := bytes.Clone(b)
	if l, e := utf.Decode(b); len(l) != 0 || e != api.ErrForm {
		t.Fatalf("Decode(% x): %x, %d, not ErrForm", b, l, e)
	}
	if n, e := utf.Len(b); n != 0 || e != api.ErrForm {
		t.Fatalf("Len(% x): %d, %d, not ErrForm", b, n, e)
	}
	if utf.Plain(b) {
		t.Fatalf("Plain(% x)", b)
	}
	if !bytes.Equal(b, whole) {
		t.Fatalf("what was handed in changed: % x, was % x", b, whole)
	}
}

// check holds all calls against what the model tells of bytes.
func (m model) check(t testing.TB, b []byte) {
	t.Helper()
	all := m.texts(b)
	switch len(all) {
	case 0:
		refuses(t, b)
	case 1:
		decodes(t, b, all[0])
	default:
		t.Fatalf("% x are the bytes of %d texts", b, len(all))
	}
}

// edges are the units at which the number of bytes, or a byte, changes, with their neighbours.
func edges() []uint16 {
	var row []uint16
	for _, u := range []int{0, 63, 64, 127, 128, 191, 192, 255, 256, 2047, 2048, 4095, 4096, 0x7fff, 0x8000, 0xd7ff, 0xd800, 0xdbff, 0xdc00, 0xdfff, 0xe000, 0xfeff, 0xfffe, 0xffff} {
		for _, x := range []int{u - 1, u, u + 1} {
			if 0 <= x && x < 1<<16 {
				row = append(row, uint16(x))
			}
		}
	}
	slices.Sort(row)
	return slices.Compact(row)
}

// edgeBytes are the bytes at which a byte's meaning changes, and others of each meaning.
func edgeBytes() []byte {
	return []byte{0, 1, 0x41, 0x7f, 0x80, 0x81, 0x9f, 0xa0, 0xbf, 0xc0, 0xc1, 0xc2, 0xdf, 0xe0, 0xe1, 0xed, 0xef, 0xf0, 0xf4, 0xf7, 0xf8, 0xff}
}

// dice tells numbers that look as if thrown, the same ones each time.
type dice uint64

func (d *dice) next(below int) int {
	*d = *d*6364136223846793005 + 1442695040888963407
	return int(uint64(*d)>>33) % below
}
