package crc_test

import (
	"bytes"
	"hash/crc32"
	"testing"

	"carpetbag/crc"
)

// example is the chapter's.
const example = "123456789"

// model16 goes on with a sum bit by bit, as the chapter's words go.
func model16(sum uint16, b []byte) uint16 {
	for _, x := range b {
		sum ^= uint16(x) * 256
		for range 8 {
			if sum >= 0x8000 {
				sum = sum*2 ^ 0x1021
			} else {
				sum = sum * 2
			}
		}
	}
	return sum
}

// model32 is a sum bit by bit, as the chapter's words go.
func model32(b []byte) uint32 {
	sum := uint32(0xffffffff)
	for _, x := range b {
		sum ^= uint32(x)
		for range 8 {
			if sum%2 == 1 {
				sum = sum/2 ^ 0x82f63b78
			} else {
				sum = sum / 2
			}
		}
	}
	return ^sum
}

// dice tells numbers that look as if thrown, the same ones each time.
type dice uint64

func (d *dice) next() uint32 {
	*d = *d*6364136223846793005 + 1442695040888963407
	return uint32(*d >> 32)
}

func (d *dice) bytes(n int) []byte {
	b := make([]byte, n)
	for i := range b {
		b[i] = byte(d.next() >> 8)
	}
	return b
}

// rows are bytes of many lengths.
func rows() [][]byte {
	d := dice(1)
	all := [][]byte{nil, {}, []byte(example), make([]byte, 1000), bytes.Repeat([]byte{0xff}, 1000)}
	for n := range 130 {
		all = append(all, d.bytes(n), make([]byte, n), bytes.Repeat([]byte{0xff}, n))
	}
	return append(all, d.bytes(4096), d.bytes(65536))
}

// P3.1: the sums.

func TestExamples(t *testing.T) {
	if got := crc.Sum16([]byte(example)); got != 0x29b1 {
		t.Errorf("Sum16: %#x", got)
	}
	if got := crc.Sum32([]byte(example)); got != 0xe3069283 {
		t.Errorf("Sum32: %#x", got)
	}
	if got := crc.More16(0xffff, []byte(example)); got != 0x29b1 {
		t.Errorf("More16: %#x", got)
	}
}

func TestOfNoBytes(t *testing.T) {
	for _, b := range [][]byte{nil, {}} {
		if crc.Sum16(b) != 0xffff || crc.Sum32(b) != 0 {
			t.Errorf("%#x, %#x", crc.Sum16(b), crc.Sum32(b))
		}
		for sum := range 1 << 16 {
			if got := crc.More16(uint16(sum), b); got != uint16(sum) {
				t.Fatalf("More16(%#x) with no bytes: %#x", sum, got)
			}
		}
	}
}

func TestAgainstModel(t *testing.T) {
	castagnoli := crc32.MakeTable(crc32.Castagnoli)
	for _, b := range rows() {
		if got, wanted := crc.Sum16(b), model16(0xffff, b); got != wanted {
			t.Fatalf("Sum16 of %d bytes: %#x, not %#x", len(b), got, wanted)
		}
		if got, wanted := crc.Sum32(b), model32(b); got != wanted {
			t.Fatalf("Sum32 of %d bytes: %#x, not %#x", len(b), got, wanted)
		}
		if got, wanted := crc.Sum32(b), crc32.Checksum(b, castagnoli); got != wanted {
			t.Fatalf("Sum32 of %d bytes: %#x, the library's is %#x", len(b), got, wanted)
		}
	}
}

func TestOfOneByteAndOfTwo(t *testing.T) {
	for x := range 1 << 16 {
		for _, b := range [][]byte{{byte(x)}, {byte(x >> 8), byte(x)}} {
			if got, wanted := crc.Sum16(b), model16(0xffff, b); got != wanted {
				t.Fatalf("Sum16 of %v: %#x, not %#x", b, got, wanted)
			}
			if got, wanted := crc.Sum32(b), model32(b); got != wanted {
				t.Fatalf("Sum32 of %v: %#x, not %#x", b, got, wanted)
			}
		}
	}
}

func TestMoreFromEachSum(t *testing.T) {
	d := dice(2)
	for sum := range 1 << 16 {
		b := d.bytes(sum%5 + 1)
		if got, wanted := crc.More16(uint16(sum), b), model16(uint16(sum), b); got != wanted {
			t.Fatalf("More16(%#x, %v): %#x, not %#x", sum, b, got, wanted)
		}
	}
}

func TestInPartsAsInOne(t *testing.T) {
	for _, b := range rows() {
		if len(b) > 1000 {
			continue
		}
		whole := crc.Sum16(b)
		for cut := range len(b) + 1 {
			if got := crc.More16(crc.Sum16(b[:cut]), b[cut:]); got != whole {
				t.Fatalf("%d bytes cut at %d: %#x, not %#x", len(b), cut, got, whole)
			}
		}
		sum := crc.Sum16(nil)
		for _, x := range b {
			sum = crc.More16(sum, []byte{x})
		}
		if sum != whole {
			t.Fatalf("%d bytes one by one: %#x, not %#x", len(b), sum, whole)
		}
	}
}

func TestBytesAreLeftAlone(t *testing.T) {
	spare := []byte(example + "and more")
	b := spare[:len(example)]
	for range 2 { // no call is told by one ahead of it
		if crc.Sum16(b) != 0x29b1 || crc.Sum32(b) != 0xe3069283 || crc.More16(0x29b1, b[:0]) != 0x29b1 {
			t.Errorf("%#x, %#x, %#x", crc.Sum16(b), crc.Sum32(b), crc.More16(0x29b1, b[:0]))
		}
	}
	if string(spare) != example+"and more" {
		t.Errorf("what was handed in changed: %q", spare)
	}
}

// P3.2: turned bits.

// turn16 turns the bits of a pattern from a place on, a byte's highest bit first; the pattern's highest bit stands first.
func turn16(b []byte, at int, pattern uint32) {
	for i := range 32 {
		if place := at + i; pattern>>(31-i)&1 == 1 {
			b[place/8] ^= 0x80 >> (place % 8)
		}
	}
}

// turn32 does so a byte's lowest bit first.
func turn32(b []byte, at int, pattern uint32) {
	for i := range 32 {
		if place := at + i; pattern>>(31-i)&1 == 1 {
			b[place/8] ^= 1 << (place % 8)
		}
	}
}

func TestTurnedWithin16Places(t *testing.T) {
	for _, b := range [][]byte{[]byte(example), make([]byte, 3), {0xff, 0xff, 0xff}, {0x29, 0xb1, 0, 0}} {
		sum := crc.Sum16(b)
		turned := make([]byte, len(b)+4) // room for the pattern's lower half, which is empty
		for at := range 8*len(b) - 15 {
			for pattern := uint32(1); pattern < 1<<16; pattern++ {
				copy(turned, b)
				turn16(turned, at, pattern<<16)
				if crc.Sum16(turned[:len(b)]) == sum {
					t.Fatalf("%v with the bits %#x turned at %d has the same sum", b, pattern, at)
				}
			}
		}
	}
}

// patterns are bits within 32 places: each two, whole rows, and many that look as if thrown.
func patterns() []uint32 {
	var all []uint32
	for i := range 32 {
		all = append(all, 0xffffffff>>i, 0xffffffff<<i)
		for j := range i + 1 {
			all = append(all, 1<<i|1<<j, 1<<i|1<<j|1, 0xffffffff>>(31-i)&^(1<<j-1))
		}
	}
	d := dice(3)
	for range 3000 {
		all = append(all, max(d.next(), 1), max(d.next()&d.next(), 1))
	}
	return append(all, 0x82f63b78, 0x1021, 0x1edc6f41, 0x05ec76f1)
}

func TestTurnedWithin32Places(t *testing.T) {
	for _, b := range [][]byte{[]byte(example), make([]byte, 5), bytes.Repeat([]byte{0xff}, 6)} {
		sum := crc.Sum32(b)
		for at := range 8*len(b) - 31 {
			for _, pattern := range patterns() {
				turned := bytes.Clone(b)
				turn32(turned, at, pattern)
				if crc.Sum32(turned) == sum {
					t.Fatalf("%v with the bits %#x turned at %d has the same sum", b, pattern, at)
				}
			}
		}
	}
}

func TestTurnedInLongRows(t *testing.T) {
	d := dice(4)
	b := d.bytes(4096)
	sum16, sum32 := crc.Sum16(b), crc.Sum32(b)
	for at := 0; at <= 8*len(b)-32; at += 37 {
		pattern := d.next() | 1<<31
		turn16(b, at, pattern&0xffff0000)
		if crc.Sum16(b) == sum16 {
			t.Fatalf("16 bits: %#x turned at %d has the same sum", pattern, at)
		}
		turn16(b, at, pattern&0xffff0000)
		turn32(b, at, pattern)
		if crc.Sum32(b) == sum32 {
			t.Fatalf("32 bits: %#x turned at %d has the same sum", pattern, at)
		}
		turn32(b, at, pattern)
	}
}
