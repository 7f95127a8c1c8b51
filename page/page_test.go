package page_test

import (
	"bytes"
	"math"
	"testing"

	"carpetbag/api"
	"carpetbag/page"
)

// laid are numbers in the row, and what a header begins with, written out.
var laid = []struct {
	seq   uint32
	bytes [8]byte
}{
	{0, [8]byte{0x43, 0x42, 0, 0, 0, 0, 0xff, 0x0b}},
	{1, [8]byte{0x43, 0x42, 0, 0, 0, 1, 0xef, 0x2a}},
	{255, [8]byte{0x43, 0x42, 0, 0, 0, 0xff, 0xe1, 0xfb}},
	{256, [8]byte{0x43, 0x42, 0, 0, 1, 0, 0xcc, 0x3a}},
	{0x01020304, [8]byte{0x43, 0x42, 1, 2, 3, 4, 0xf2, 0x08}},
	{math.MaxInt32, [8]byte{0x43, 0x42, 0x7f, 0xff, 0xff, 0xff, 0xbb, 0xfc}},
	{1 << 31, [8]byte{0x43, 0x42, 0x80, 0, 0, 0, 0x22, 0x33}},
	{math.MaxUint32, [8]byte{0x43, 0x42, 0xff, 0xff, 0xff, 0xff, 0x66, 0xc4}},
}

// sum is the sum of 16 bits, bit by bit, as chapter 3's words go.
func sum(b []byte) uint16 {
	s := uint16(0xffff)
	for _, x := range b {
		s ^= uint16(x) * 256
		for range 8 {
			if s >= 0x8000 {
				s = s*2 ^ 0x1021
			} else {
				s = s * 2
			}
		}
	}
	return s
}

// summed is six bytes, and their sum.
func summed(six ...byte) []byte {
	s := sum(six)
	return append(append([]byte(nil), six...), byte(s/256), byte(s%256))
}

// begun is what a header begins with, byte by byte.
func begun(seq uint32) []byte {
	return summed('C', 'B', byte(seq>>24), byte(seq>>16), byte(seq>>8), byte(seq))
}

// header is a header whose last four bytes are told.
func header(seq uint32, live, void, spare, last byte) []byte {
	return append(begun(seq), live, void, spare, last)
}

// same is n bytes x.
func same(x byte, n int) []byte { return bytes.Repeat([]byte{x}, n) }

// dice tells numbers that look as if thrown, the same ones each time.
type dice uint64

func (d *dice) next() uint32 {
	*d = *d*6364136223846793005 + 1442695040888963407
	return uint32(*d >> 32)
}

func (d *dice) below(n int) int { return int(d.next() % uint32(n)) }

// seqs are the edges of numbers in the row, and others.
func seqs() []uint32 {
	row := []uint32{}
	for _, x := range laid {
		row = append(row, x.seq)
	}
	for bit := range 32 {
		row = append(row, 1<<bit, ^uint32(1<<bit))
	}
	d := dice(4)
	for range 500 {
		row = append(row, d.next())
	}
	return row
}

// refused holds what Parse answers against an error.
func refused(t *testing.T, b []byte, wanted api.Errno) {
	t.Helper()
	if h, e := page.Parse(b); e != wanted || h != (api.Head{}) {
		t.Fatalf("Parse(% x): %v, %d, not %d", b, h, e, wanted)
	}
}

// parsed holds what Parse answers against a header.
func parsed(t *testing.T, b []byte, wanted api.Head) {
	t.Helper()
	if h, e := page.Parse(b); e != api.OK || h != wanted {
		t.Fatalf("Parse(% x): %v, %d, not %v", b, h, e, wanted)
	}
}

// P4.1: Bytes.

func TestHeadSize(t *testing.T) {
	if page.HeadSize != 12 {
		t.Error(page.HeadSize)
	}
}

func TestBytes(t *testing.T) {
	for _, x := range laid {
		if b := page.Bytes(x.seq); !bytes.Equal(b, x.bytes[:]) {
			t.Errorf("Bytes(%d): % x, not % x", x.seq, b, x.bytes)
		}
	}
	for _, seq := range seqs() {
		if b := page.Bytes(seq); !bytes.Equal(b, begun(seq)) {
			t.Errorf("Bytes(%d): % x, not % x", seq, b, begun(seq))
		}
	}
}

func TestBytesAreNewMemory(t *testing.T) {
	a, b := page.Bytes(7), page.Bytes(7)
	for i := range a {
		a[i] = 0
	}
	_ = append(a[:0], same(9, cap(a))...)
	if !bytes.Equal(b, begun(7)) || !bytes.Equal(page.Bytes(7), begun(7)) {
		t.Error("two answers share memory")
	}
}

// P4.1: Parse.

func TestExample(t *testing.T) {
	b := append([]byte{'C', 'B', 0, 0, 0, 1}, 0xef, 0x2a, 0xff, 0xff, 0xff, 0xff)
	parsed(t, b, api.Head{Seq: 1})
}

func TestParseOfWhatBytesMade(t *testing.T) {
	for _, seq := range seqs() {
		parsed(t, append(page.Bytes(seq), 255, 255, 255, 255), api.Head{Seq: seq})
		parsed(t, append(page.Bytes(seq), 0, 255, 255, 255), api.Head{Seq: seq, Live: true})
		parsed(t, append(page.Bytes(seq), 0, 0, 255, 255), api.Head{Seq: seq, Live: true, Void: true})
		parsed(t, append(page.Bytes(seq), 255, 0, 255, 255), api.Head{Seq: seq, Void: true})
	}
}

func TestParseOfAllFlags(t *testing.T) {
	b := header(0x01020304, 0, 0, 255, 255)
	for live := range 256 {
		for void := range 256 {
			b[8], b[9] = byte(live), byte(void)
			parsed(t, b, api.Head{Seq: 0x01020304, Live: live == 0, Void: void != 255})
		}
	}
}

func TestParseOfAnySpareBytes(t *testing.T) {
	for x := range 256 {
		parsed(t, header(3, 0, 255, byte(x), 255), api.Head{Seq: 3, Live: true})
		parsed(t, header(3, 0, 255, 255, byte(x)), api.Head{Seq: 3, Live: true})
		parsed(t, header(3, 255, 0, byte(x), byte(x)), api.Head{Seq: 3, Void: true})
	}
}

func TestParseOfAllLengths(t *testing.T) {
	refused(t, nil, api.ErrShort)
	for _, seq := range []uint32{0, 9, math.MaxUint32} {
		whole := append(header(seq, 0, 255, 255, 255), same(0x5a, 60)...)
		for n := range whole {
			if n < 12 {
				refused(t, whole[:n:n], api.ErrShort)
				// The spare room isn't part of what is handed in.
				refused(t, whole[:n], api.ErrShort)
				continue
			}
			parsed(t, whole[:n], api.Head{Seq: seq, Live: true})
		}
	}
	for n := range 12 {
		refused(t, same(0, n), api.ErrShort)
		refused(t, same(255, n), api.ErrShort)
	}
}

func TestParseOfAllMarks(t *testing.T) {
	for first := range 256 {
		for second := range 256 {
			if first == 'C' && second == 'B' {
				continue
			}
			b := append(summed(byte(first), byte(second), 1, 2, 3, 4), 0, 255, 255, 255)
			refused(t, b, api.ErrForm)
			// A wrong mark is named ahead of a wrong sum.
			b[7]++
			refused(t, b, api.ErrForm)
		}
	}
	refused(t, same(255, 12), api.ErrForm)
	refused(t, same(0, 12), api.ErrForm)
	refused(t, same(255, 64), api.ErrForm)
}

func TestParseOfAllSums(t *testing.T) {
	b := header(0x01020304, 0, 255, 255, 255)
	for s := range 1 << 16 {
		b[6], b[7] = byte(s>>8), byte(s)
		if s == 0xf208 {
			parsed(t, b, api.Head{Seq: 0x01020304, Live: true})
			continue
		}
		refused(t, b, api.ErrSum)
	}
}

func TestParseOfTurnedBits(t *testing.T) {
	for _, x := range laid {
		for bit := range 64 {
			b := append(x.bytes[:], 0, 255, 255, 255)
			b[bit/8] ^= 1 << (bit % 8)
			wanted := api.ErrSum
			if bit < 16 {
				wanted = api.ErrForm
			}
			refused(t, b, wanted)
		}
	}
}

func TestParseChangesNothing(t *testing.T) {
	for _, live := range []byte{0, 1, 255} {
		b := append(header(8, live, 255, 255, 255), same(0x77, 9)...)
		ahead := append([]byte(nil), b...)
		for n := range b {
			page.Parse(b[:n])
		}
		if !bytes.Equal(b, ahead) {
			t.Errorf("% x, not % x", b, ahead)
		}
	}
}
