package num_test

import (
	"bytes"
	"math"
	"testing"

	"carpetbag/api"
	"carpetbag/num"
)

// noSizes are numbers of bytes that no number has.
func noSizes() []int {
	return []int{0, -1, 9, -8, 10, 16, 64, 255, 256, 257, 1 << 32, 1<<32 + 1, math.MinInt, math.MinInt + 1, math.MaxInt}
}

// words are numbers of 8 bytes: edges of each size, and others.
func words() []uint64 {
	row := []uint64{0x0123456789abcdef, 0xfedcba9876543210, 0x8040201008040201, 0x00ff00ff00ff00ff, 0xff00ff00ff00ff00, 258}
	for n := 1; n <= 8; n++ {
		top := uint64(1) << (8*n - 1) // the sign's bit
		row = append(row, top-2, top-1, top, top+1, 2*top-2, 2*top-1, 2*top, 2*top+1, -top-1, -top, -top+1)
	}
	return append(row, 0, 1, math.MaxUint64)
}

// P2.1: Put.

func TestPut(t *testing.T) {
	for _, x := range []struct {
		b    []byte
		v    uint64
		n    int
		want []byte
	}{
		{nil, 258, 2, []byte{1, 2}}, // the chapter's example
		{nil, 0x0102030405060708, 1, []byte{8}},
		{nil, 0x0102030405060708, 2, []byte{7, 8}},
		{nil, 0x0102030405060708, 3, []byte{6, 7, 8}},
		{nil, 0x0102030405060708, 4, []byte{5, 6, 7, 8}},
		{nil, 0x0102030405060708, 5, []byte{4, 5, 6, 7, 8}},
		{nil, 0x0102030405060708, 6, []byte{3, 4, 5, 6, 7, 8}},
		{nil, 0x0102030405060708, 7, []byte{2, 3, 4, 5, 6, 7, 8}},
		{nil, 0x0102030405060708, 8, []byte{1, 2, 3, 4, 5, 6, 7, 8}},
		{nil, 0, 8, []byte{0, 0, 0, 0, 0, 0, 0, 0}},
		{nil, math.MaxUint64, 8, []byte{255, 255, 255, 255, 255, 255, 255, 255}},
		{nil, math.MaxUint64, 3, []byte{255, 255, 255}},
		{nil, 0x80, 1, []byte{0x80}},
		{nil, 0x100, 1, []byte{0}},
		{[]byte{}, 1, 4, []byte{0, 0, 0, 1}},
		{[]byte{9, 8, 7}, 0x0a0b, 2, []byte{9, 8, 7, 10, 11}},
		{[]byte{0}, 1 << 63, 8, []byte{0, 0x80, 0, 0, 0, 0, 0, 0, 0}},
	} {
		if got := num.Put(x.b, x.v, x.n); !bytes.Equal(got, x.want) {
			t.Errorf("Put(%v, %#x, %d): %v, not %v", x.b, x.v, x.n, got, x.want)
		}
	}
}

func TestPutOfNoSize(t *testing.T) {
	for _, n := range noSizes() {
		for _, b := range [][]byte{nil, {}, {1, 2, 3}} {
			for _, v := range words() {
				if got := num.Put(b, v, n); !bytes.Equal(got, b) {
					t.Fatalf("Put(%v, %#x, %d): %v", b, v, n, got)
				}
			}
		}
	}
}

func TestPutAnswersNewMemory(t *testing.T) {
	for _, n := range []int{-1, 0, 1, 2, 8, 9} {
		spare := []byte{1, 2, 3, 4, 5, 6, 7, 8, 9, 10, 11, 12}
		b := spare[:2]
		got := num.Put(b, math.MaxUint64, n)
		again := num.Put(b, math.MaxUint64, n)
		if !bytes.Equal(spare, []byte{1, 2, 3, 4, 5, 6, 7, 8, 9, 10, 11, 12}) {
			t.Errorf("n %d: what was handed in changed: %v", n, spare)
		}
		got[0] = 77
		_ = append(got, 78, 79)
		if spare[0] != 1 || spare[2] != 3 || again[0] != 1 {
			t.Errorf("n %d: memory is shared: %v, %v", n, spare, again)
		}
		spare[1] = 55
		if got[1] != 2 || again[1] != 2 {
			t.Errorf("n %d: what was handed in is kept", n)
		}
	}
}

// P2.1: Get.

func TestGet(t *testing.T) {
	b := []byte{1, 2, 3, 4, 5, 6, 7, 8, 0xff, 0x80, 0}
	for _, x := range []struct {
		at, n int
		want  uint64
	}{
		{0, 1, 1}, {0, 2, 0x0102}, {0, 3, 0x010203}, {0, 4, 0x01020304}, {0, 5, 0x0102030405},
		{0, 6, 0x010203040506}, {0, 7, 0x01020304050607}, {0, 8, 0x0102030405060708},
		{3, 8, 0x0405060708ff8000}, {8, 3, 0xff8000}, {8, 1, 0xff}, {9, 1, 0x80}, {10, 1, 0}, {7, 2, 0x08ff},
	} {
		if v, e := num.Get(b, x.at, x.n); v != x.want || e != api.OK {
			t.Errorf("Get(b, %d, %d): %#x, %d, not %#x", x.at, x.n, v, e, x.want)
		}
	}
	if !bytes.Equal(b, []byte{1, 2, 3, 4, 5, 6, 7, 8, 0xff, 0x80, 0}) {
		t.Error("what was handed in changed", b)
	}
}

// places are places in, around and far from n bytes.
func places(n int) []int {
	row := []int{math.MinInt, math.MinInt + 1, math.MinInt + 8, -1 << 32, -100, math.MaxInt, math.MaxInt - 1, math.MaxInt - 7, math.MaxInt - 8, 1 << 32}
	for at := -10; at <= n+10; at++ {
		row = append(row, at)
	}
	return row
}

func TestGetAtAllPlaces(t *testing.T) {
	spare := []byte{3, 1, 4, 1, 5, 9, 2, 6, 5, 3, 5, 8, 9, 7, 9, 3, 2, 3, 8, 4, 6}
	for size := 0; size <= 12; size++ {
		b := spare[:size] // what stands in its spare room isn't there
		for _, at := range places(size) {
			for n := 1; n <= 8; n++ {
				there := at >= 0 && at <= size && n <= size-at
				wanted, e := uint64(0), api.ErrShort
				if there {
					e = api.OK
					for _, x := range b[at : at+n] {
						wanted = 256*wanted + uint64(x)
					}
				}
				if v, got := num.Get(b, at, n); v != wanted || got != e {
					t.Fatalf("Get of %d bytes (%d, %d): %#x, %d, not %#x, %d", size, at, n, v, got, wanted, e)
				}
			}
			for _, n := range noSizes() {
				if v, got := num.Get(b, at, n); v != 0 || got != api.ErrArg {
					t.Fatalf("Get of %d bytes (%d, %d): %#x, %d, not ErrArg", size, at, n, v, got)
				}
			}
		}
	}
}

func TestGetOfNil(t *testing.T) {
	for n := 1; n <= 8; n++ {
		if v, e := num.Get(nil, 0, n); v != 0 || e != api.ErrShort {
			t.Errorf("Get(nil, 0, %d): %d, %d", n, v, e)
		}
	}
	if v, e := num.Get(nil, 0, 0); v != 0 || e != api.ErrArg {
		t.Errorf("Get(nil, 0, 0): %d, %d", v, e)
	}
}

// P2.2: what is put is got.

func TestPutIsGot(t *testing.T) {
	for _, b := range [][]byte{nil, {0xff}, {1, 2, 3}, bytes.Repeat([]byte{0xa5}, 20)} {
		for _, v := range words() {
			for n := 1; n <= 8; n++ {
				row := num.Put(b, v, n)
				if len(row) != len(b)+n || !bytes.Equal(row[:len(b)], b) {
					t.Fatalf("Put(%v, %#x, %d): %v", b, v, n, row)
				}
				wanted := v & (math.MaxUint64 >> (64 - 8*n))
				if got, e := num.Get(row, len(b), n); got != wanted || e != api.OK {
					t.Fatalf("%#x in %d bytes: got %#x, %d", v, n, got, e)
				}
			}
		}
	}
}

func TestPutsBehindEachOtherAreGot(t *testing.T) {
	var row []byte
	for n := 1; n <= 8; n++ {
		for _, v := range words() {
			row = num.Put(row, v, n)
		}
	}
	at := 0
	for n := 1; n <= 8; n++ {
		for _, v := range words() {
			got, e := num.Get(row, at, n)
			if e != api.OK || got != v&(math.MaxUint64>>(64-8*n)) {
				t.Fatalf("%#x in %d bytes at %d: got %#x, %d", v, n, at, got, e)
			}
			at += n
		}
	}
	if at != len(row) {
		t.Errorf("%d bytes, not %d", len(row), at)
	}
}

// P2.1: Sign.

func TestSign(t *testing.T) {
	for _, x := range []struct {
		v    uint64
		n    int
		want int64
	}{
		{0, 1, 0}, {1, 1, 1}, {0x7f, 1, 127}, {0x80, 1, -128}, {0xff, 1, -1}, {0x100, 1, 0}, {0x17f, 1, 127}, {0x180, 1, -128},
		{0x7fff, 2, 32767}, {0x8000, 2, -32768}, {0xffff, 2, -1}, {0xff7f, 2, -129}, {0x80, 2, 128}, {0x12348000, 2, -32768},
		{0x7fffff, 3, 1<<23 - 1}, {0x800000, 3, -1 << 23},
		{0x7fffffff, 4, math.MaxInt32}, {0x80000000, 4, math.MinInt32}, {0xffffffff, 4, -1}, {0x1_7fffffff, 4, math.MaxInt32},
		{0x7fffffffff, 5, 1<<39 - 1}, {0x8000000000, 5, -1 << 39},
		{0x7fffffffffff, 6, 1<<47 - 1}, {0x800000000000, 6, -1 << 47},
		{0x7fffffffffffff, 7, 1<<55 - 1}, {0x80000000000000, 7, -1 << 55}, {0xffffffffffffff, 7, -1},
		{math.MaxInt64, 8, math.MaxInt64}, {1 << 63, 8, math.MinInt64}, {math.MaxUint64, 8, -1}, {0, 8, 0},
	} {
		if got := num.Sign(x.v, x.n); got != x.want {
			t.Errorf("Sign(%#x, %d): %d, not %d", x.v, x.n, got, x.want)
		}
	}
}

// worth is what the lowest n bytes of v are worth, bit by bit.
func worth(v uint64, n int) int64 {
	var sum int64
	for bit := range 8*n - 1 {
		sum += int64(v>>bit&1) << bit
	}
	if v>>(8*n-1)&1 == 1 {
		sum -= 1 << (8*n - 2) // in two halves: the highest bit of 8 bytes is worth more than there is above 0
		sum -= 1 << (8*n - 2)
	}
	return sum
}

func TestSignBitByBit(t *testing.T) {
	for _, v := range words() {
		for n := 1; n <= 8; n++ {
			if got := num.Sign(v, n); got != worth(v, n) {
				t.Errorf("Sign(%#x, %d): %d, not %d", v, n, got, worth(v, n))
			}
		}
		for _, n := range noSizes() {
			if got := num.Sign(v, n); got != 0 {
				t.Errorf("Sign(%#x, %d): %d, not 0", v, n, got)
			}
		}
	}
}

func TestSignOfEachShort(t *testing.T) {
	for v := range uint64(1 << 16) {
		if got := num.Sign(v, 1); got != int64(int8(v)) {
			t.Fatalf("Sign(%#x, 1): %d", v, got)
		}
		if got := num.Sign(v, 2); got != int64(int16(v)) {
			t.Fatalf("Sign(%#x, 2): %d", v, got)
		}
		if got := num.Sign(v, 3); got != int64(v) {
			t.Fatalf("Sign(%#x, 3): %d", v, got)
		}
	}
}

// P2.1: Cmp.

func TestCmp(t *testing.T) {
	rising := []int64{math.MinInt64, math.MinInt64 + 1, math.MinInt32 - 1, math.MinInt32, -2, -1, 0, 1, 2,
		math.MaxInt32, math.MaxInt32 + 1, 1 << 32, math.MaxInt64 - 1, math.MaxInt64}
	for i, a := range rising {
		for j, b := range rising {
			wanted := int32(0)
			if i < j {
				wanted = -1
			} else if i > j {
				wanted = 1
			}
			if got := num.Cmp(a, b); got != wanted {
				t.Errorf("Cmp(%d, %d): %d, not %d", a, b, got, wanted)
			}
		}
	}
}
