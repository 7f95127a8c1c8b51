package utf_test

import (
	"bytes"
	"slices"
	"testing"
	"unicode/utf8"

	"carpetbag/api"
	"carpetbag/utf"
)

// P10.1: units and their bytes.

func TestUnits(t *testing.T) {
	for _, x := range []struct {
		u    uint16
		want []byte
	}{
		{0, []byte{192, 128}}, // the chapter's example
		{1, []byte{1}},
		{2, []byte{2}},
		{'A', []byte{'A'}},
		{126, []byte{126}},
		{127, []byte{127}},
		{128, []byte{0xc2, 0x80}},
		{129, []byte{0xc2, 0x81}},
		{191, []byte{0xc2, 0xbf}},
		{192, []byte{0xc3, 0x80}},
		{0xe4, []byte{0xc3, 0xa4}},
		{0x0555, []byte{0xd5, 0x95}},
		{2046, []byte{0xdf, 0xbe}},
		{2047, []byte{0xdf, 0xbf}},
		{2048, []byte{0xe0, 0xa0, 0x80}},
		{2049, []byte{0xe0, 0xa0, 0x81}},
		{0x0fff, []byte{0xe0, 0xbf, 0xbf}},
		{0x1000, []byte{0xe1, 0x80, 0x80}},
		{0x20ac, []byte{0xe2, 0x82, 0xac}},
		{0xaaaa, []byte{0xea, 0xaa, 0xaa}},
		{0xd7ff, []byte{0xed, 0x9f, 0xbf}},
		{0xd800, []byte{0xed, 0xa0, 0x80}},
		{0xdbff, []byte{0xed, 0xaf, 0xbf}},
		{0xdc00, []byte{0xed, 0xb0, 0x80}},
		{0xdfff, []byte{0xed, 0xbf, 0xbf}},
		{0xe000, []byte{0xee, 0x80, 0x80}},
		{0xfeff, []byte{0xef, 0xbb, 0xbf}},
		{0xfffe, []byte{0xef, 0xbf, 0xbe}},
		{0xffff, []byte{0xef, 0xbf, 0xbf}},
	} {
		if got := utf.Encode([]uint16{x.u}); !bytes.Equal(got, x.want) {
			t.Errorf("Encode of %#x: % x, not % x", x.u, got, x.want)
		}
		decodes(t, x.want, []uint16{x.u})
	}
}

func TestTexts(t *testing.T) {
	for _, x := range []struct {
		l    []uint16
		want string
	}{
		{[]uint16{'m', 'a', 'i', 'n'}, "main"},
		{[]uint16{'I', 0, 'J'}, "I\xc0\x80J"},
		{[]uint16{0, 0}, "\xc0\x80\xc0\x80"},
		{[]uint16{127, 128, 2047, 2048}, "\x7f\xc2\x80\xdf\xbf\xe0\xa0\x80"},
		{[]uint16{2048, 2047, 128, 127}, "\xe0\xa0\x80\xdf\xbf\xc2\x80\x7f"},
		{[]uint16{0xd83d, 0xde00}, "\xed\xa0\xbd\xed\xb8\x80"}, // two surrogates are two units
		{[]uint16{0xde00, 0xd83d}, "\xed\xb8\x80\xed\xa0\xbd"}, // in any order
		{[]uint16{0xd83d, 'x'}, "\xed\xa0\xbdx"},
		{[]uint16{'z', 0xe4, 0x20ac, 0}, "zä€\xc0\x80"},
	} {
		if got := utf.Encode(x.l); string(got) != x.want {
			t.Errorf("Encode(%x): % x, not % x", x.l, got, x.want)
		}
		decodes(t, []byte(x.want), x.l)
	}
}

func TestNothing(t *testing.T) {
	for _, l := range [][]uint16{nil, {}, []uint16{1, 2}[:0]} {
		if got := utf.Encode(l); len(got) != 0 {
			t.Errorf("Encode of no units: % x", got)
		}
	}
	for _, b := range [][]byte{nil, {}, []byte{0, 255}[:0]} {
		decodes(t, b, nil)
		if !utf.Plain(b) {
			t.Error("no bytes aren't plain")
		}
	}
}

func TestEachUnit(t *testing.T) {
	for u := range 1 << 16 {
		b := utf.Encode([]uint16{uint16(u)})
		if wanted := modelUnit(u); !bytes.Equal(b, wanted) {
			t.Fatalf("Encode of %#x: % x, not % x", u, b, wanted)
		}
		decodes(t, b, []uint16{uint16(u)})
		if got := utf.Plain(b); got != (1 <= u && u <= 127) {
			t.Fatalf("Plain of unit %#x: %v", u, got)
		}
		// But for 0 and the surrogates, units are as the library has them.
		if r := rune(u); r != 0 && utf8.ValidRune(r) && string(b) != string(r) {
			t.Fatalf("Encode of %#x: % x, the library has % x", u, b, string(r))
		}
	}
}

func TestAllUnitsInOneText(t *testing.T) {
	var l []uint16
	for u := range 1 << 16 {
		l = append(l, uint16(u))
	}
	l = slices.Concat(l, l)
	slices.Reverse(l[1<<16:])
	b := modelBytes(l)
	if wanted := 2 * (127 + 2*1921 + 3*63488); len(b) != wanted {
		t.Fatalf("%d bytes, not %d", len(b), wanted)
	}
	decodes(t, b, l)
}

// P10.1: what is refused.

func TestEachFirstByte(t *testing.T) {
	m := newModel()
	for x := range 256 {
		for _, next := range []byte{0x80, 0x95, 0xa0, 0xbf} {
			b := []byte{byte(x)}
			for range 6 { // none that goes on, to five
				m.check(t, b)
				m.check(t, append([]byte("a"), b...))
				m.check(t, append(slices.Clip(b), 'z'))
				m.check(t, append(slices.Clip(b), 0xc3, 0xa4))
				b = append(b, next)
			}
		}
	}
}

func TestHowManyGoOn(t *testing.T) {
	// How many bytes must stand behind a first one is told here without the model; below 0: no number will do.
	behind := func(x int) int {
		switch {
		case 1 <= x && x <= 127:
			return 0
		case x == 0xc0 || 0xc2 <= x && x <= 0xdf:
			return 1
		case 0xe0 <= x && x <= 0xef:
			return 2
		}
		return -1
	}
	for x := range 256 {
		for n := range 6 {
			b := []byte{byte(x)}
			for i := range n {
				b = append(b, []byte{0xa0, 0x80, 0xbf, 0x80, 0x80}[i])
			}
			if x == 0xc0 && n > 0 {
				b[1] = 0x80 // else more than 0 is told, in too many bytes
			}
			_, e := utf.Decode(b)
			_, g := utf.Len(b)
			wanted := api.ErrForm
			if n == behind(x) {
				wanted = api.OK
			}
			if e != wanted || g != wanted {
				t.Fatalf("% x: Decode %d, Len %d, not %d", b, e, g, wanted)
			}
		}
	}
}

func TestNoUnit(t *testing.T) {
	for _, s := range []string{
		"\x00", "a\x00", "\x00a", "a\x00b", "\x00\x00", "\x00\x80", // a 0 byte
		"\x80", "\xbf", "a\x80", "\x80a", "\x80\x80", "a\xbfz", // what goes on with nothing
		"\xc0\x81", "\xc0\x8f", "\xc0\xbf", "\xc1\x80", "\xc1\xbf", "\xc0\xc1", // one byte's unit in two
		"\xe0\x80\x80", "\xe0\x80\x81", "\xe0\x81\xbf", "\xe0\x82\x80", "\xe0\x9f\xbf", // 0, one byte's and two bytes' units in three
		"\xf0\x80\x80\x80", "\xf0\x80\x81\x81", "\xf0\x80\xa0\x80", "\xf0\x8f\xbf\xbf", // units in four
		"\xf0\x9f\x98\x80", "\xf4\x8f\xbf\xbf", "\xf7\xbf\xbf\xbf", "a\xf0\x9f\x98\x80b", // four bytes, as others than this chapter have them
		"\xf8\x88\x80\x80\x80", "\xfc\x84\x80\x80\x80\x80", "\xfe", "\xff", "\xfe\x80", "\xff\x80\x80",
		"\xc2", "\xc2a", "\xc2\x7f", "\xc2\x00", "\xc2\xc2\x80", "\xc2\xe0\xa0\x80", "\xdf\xff", "\xc0", "\xc0a", "\xc0\x00", // two bytes, of which the second doesn't go on
		"\xe1", "\xe1\x80", "\xe1a", "\xe1\x80a", "\xe1a\x80", "\xe1\x80\xc0", "\xe1\xc0\x80", "\xe1\x00\x80", "\xe1\x80\x00", "\xe1\x80\xff", "\xe1\xe1\x80\x80", "\xe0", "\xe0\xa0", // three
		"\xc2\x80\x80", "\xe1\x80\x80\x80", // one too many
		"good\xc2\x80then\xc2",
	} {
		refuses(t, []byte(s))
	}
}

func TestMoreBytesThanAUnitHas(t *testing.T) {
	for u := range 2048 {
		if 1 <= u && u <= 127 {
			refuses(t, []byte{byte(192 + u/64), byte(128 + u%64)})
		}
		refuses(t, []byte{224, byte(128 + u/64), byte(128 + u%64)})
	}
	for u := range 1 << 16 {
		refuses(t, []byte{240, byte(128 + u/4096), byte(128 + u/64%64), byte(128 + u%64)})
	}
}

func TestCutShort(t *testing.T) {
	m := newModel()
	l := edges()
	b := modelBytes(l)
	ends := map[int]int{0: 0} // where units end, and how many
	for i := range l {
		ends[len(modelBytes(l[:i+1]))] = i + 1
	}
	for cut := range len(b) + 1 {
		short := b[:cut] // what is cut off stands in its spare room
		if n, ok := ends[cut]; ok {
			decodes(t, short, l[:n])
		} else {
			refuses(t, short)
		}
		m.check(t, slices.Concat(short, []byte("a")))
		m.check(t, slices.Concat(short, b))
	}
	for from := range len(b) {
		m.check(t, b[from:])
	}
}

func TestOneWrongByte(t *testing.T) {
	m := newModel()
	b := modelBytes([]uint16{'a', 0, 0x3ff, 0x8a0, 0xd800, 0xdc00, 0xffff, 127})
	for at := range b {
		for x := range 256 {
			other := bytes.Clone(b)
			other[at] = byte(x)
			m.check(t, other)
		}
	}
}

// P10.1: Plain.

func TestPlain(t *testing.T) {
	long := bytes.Repeat([]byte("carpetbag"), 100)
	for x := range 256 {
		wanted := 1 <= x && x <= 127
		for _, b := range [][]byte{{byte(x)}, {byte(x), 'a'}, {'a', byte(x)}, {'a', byte(x), 'z'}} {
			if got := utf.Plain(b); got != wanted {
				t.Errorf("Plain(% x): %v", b, got)
			}
		}
		for _, at := range []int{0, 1, len(long) / 2, len(long) - 1} {
			b := bytes.Clone(long)
			b[at] = byte(x)
			if got := utf.Plain(b); got != wanted {
				t.Errorf("Plain of a long row with %#x at %d: %v", x, at, got)
			}
		}
	}
	// A text's bytes aren't plain where they are right but for that, and bytes needn't be a text's.
	for _, s := range []string{"\xc0\x80", "ä", "€", "\xc2", "a\x80"} {
		if utf.Plain([]byte(s)) {
			t.Errorf("Plain(% x)", s)
		}
	}
	spare := []byte("abc\x00\x80")
	if !utf.Plain(spare[:3]) {
		t.Error("what stands in spare room counts")
	}
}

// R6: nothing is shared.

func TestEncodeAnswersNewMemory(t *testing.T) {
	spare := []uint16{'a', 0, 2048, 7, 8}
	l := spare[:3]
	wanted := []byte{'a', 0xc0, 0x80, 0xe0, 0xa0, 0x80}
	one, two := utf.Encode(l), utf.Encode(l)
	for i := range one {
		one[i] = 0xff
	}
	_ = append(one, 1, 2, 3)
	if !bytes.Equal(two, wanted) || !slices.Equal(spare, []uint16{'a', 0, 2048, 7, 8}) {
		t.Errorf("memory is shared: % x, %x", two, spare)
	}
	spare[0], spare[1] = 'b', 'b'
	if !bytes.Equal(two, wanted) {
		t.Errorf("what was handed in is kept: % x", two)
	}
}

func TestDecodeAnswersNewMemory(t *testing.T) {
	spare := []byte("a\xc0\x80\xe0\xa0\x80 and more")
	b := spare[:6]
	wanted := []uint16{'a', 0, 2048}
	one, _ := utf.Decode(b)
	two, _ := utf.Decode(b)
	for i := range one {
		one[i] = 0xffff
	}
	_ = append(one, 1, 2, 3)
	if !slices.Equal(two, wanted) || string(spare) != "a\xc0\x80\xe0\xa0\x80 and more" {
		t.Errorf("memory is shared: %x, %q", two, spare)
	}
	clear(spare)
	if !slices.Equal(two, wanted) {
		t.Errorf("what was handed in is kept: %x", two)
	}
}

func TestRefusedBytesAreLeftAlone(t *testing.T) {
	spare := []byte("a\xc3\xa4")
	refuses(t, spare[:2]) // the byte that is missing stands in the spare room
	if string(spare) != "aä" {
		t.Errorf("what was handed in changed: % x", spare)
	}
}
