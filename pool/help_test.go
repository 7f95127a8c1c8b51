package pool_test

import (
	"bytes"
	"math"
	"slices"
	"testing"

	"carpetbag/api"
	"carpetbag/pool"
)

// each is a pool with constants of each Tag.
func each() []api.Const {
	return []api.Const{
		{},
		{Tag: 1, S: "a/B"},
		{Tag: 7, A: 1},
		{Tag: 1, S: "run"},
		{Tag: 1, S: "(I)V"},
		{Tag: 12, A: 3, B: 4},
		{Tag: 10, A: 2, B: 5},
		{Tag: 5, N: -2},
		{},
		{Tag: 3, N: 0x01020304},
		{Tag: 8, A: 3},
		{Tag: 9, A: 2, B: 5},
		{Tag: 1, S: "\xc0\x80ä"},
	}
}

// eachBytes are the bytes of each, written out.
func eachBytes() []byte {
	return []byte{
		0, 13,
		1, 0, 3, 'a', '/', 'B',
		7, 0, 1,
		1, 0, 3, 'r', 'u', 'n',
		1, 0, 4, '(', 'I', ')', 'V',
		12, 0, 3, 0, 4,
		10, 0, 2, 0, 5,
		5, 255, 255, 255, 255, 255, 255, 255, 254,
		3, 1, 2, 3, 4,
		8, 0, 3,
		9, 0, 2, 0, 5,
		1, 0, 4, 0xc0, 0x80, 0xc3, 0xa4,
	}
}

// with is a pool and more behind it, in new memory.
func with(l []api.Const, more ...api.Const) []api.Const {
	return slices.Concat(l, more)
}

// tags are those that are told in bytes.
func tags() []int { return []int{1, 3, 5, 7, 8, 9, 10, 12} }

// numbers are those at which some number stops fitting, with their neighbours.
func numbers() []int64 {
	l := []int64{math.MinInt64, math.MaxInt64}
	for _, v := range []int64{0, 1 << 7, 1 << 8, 1 << 15, 1 << 16, 1 << 31, 1 << 32, 1 << 62} {
		l = append(l, v-1, v, v+1, -v-1, -v, -v+1)
	}
	return l
}

// places are those of a pool of n places and such that are none.
func places(n int) []int {
	l := []int{math.MinInt, math.MaxInt, -65535, 255, 256, 1023, 1024, 1025, 65535, 65536, 65537, 1 << 32}
	for at := -3; at < n+4; at++ {
		l = append(l, at)
	}
	return l
}

// noTexts are no texts' bytes.
func noTexts() []string {
	return []string{"\x00", "a\x00", "\x80", "\xff", "\xc0", "\xc0\x81", "\xc1\x81", "a\xc3", "\xe0\x80\x80", "\xe0\xa0", "\xf0\x9f\x98\x80", "ok\xc3\xa4\xbf"}
}

// makes holds all calls against a pool that may be, and its bytes.
func makes(t testing.TB, l []api.Const, wanted []byte) {
	t.Helper()
	whole := slices.Clone(l)
	if e := pool.Check(l); e != api.OK {
		t.Fatalf("Check of %d places: %d", len(l), e)
	}
	b, e := pool.Bytes(l)
	if e != api.OK || !bytes.Equal(b, wanted) {
		t.Fatalf("Bytes of %d places: %d bytes, %d, not the %d that it has", len(l), len(b), e, len(wanted))
	}
	if !slices.Equal(l, whole) {
		t.Fatal("what was handed in changed")
	}
	parses(t, wanted, l)
}

// makesNone asks whether all calls refuse a pool that may not be.
func makesNone(t testing.TB, l []api.Const) {
	t.Helper()
	whole := slices.Clone(l)
	if e := pool.Check(l); e != api.ErrForm {
		t.Fatalf("Check of %d places: %d, not ErrForm", len(l), e)
	}
	if b, e := pool.Bytes(l); len(b) != 0 || e != api.ErrForm {
		t.Fatalf("Bytes of %d places: %d bytes, %d, not ErrForm", len(l), len(b), e)
	}
	if !slices.Equal(l, whole) {
		t.Fatal("what was handed in changed")
	}
}

// judged holds all calls against what the model tells of a pool, and answers whether it may be.
func judged(t testing.TB, l []api.Const) bool {
	t.Helper()
	if modelMayBe(l) {
		makes(t, l, modelBytes(l))
		return true
	}
	makesNone(t, l)
	return false
}

// parses asks whether bytes are parsed, with and without more behind them.
func parses(t testing.TB, b []byte, wanted []api.Const) {
	t.Helper()
	for _, more := range []string{"", "\x00", "\x01\x00\x03abc", "\xff\xff"} {
		longer := append(slices.Clip(b), more...)
		whole := bytes.Clone(longer)
		l, n, e := pool.Parse(longer)
		if !slices.Equal(l, wanted) || n != len(b) || e != api.OK {
			t.Fatalf("Parse: %d places, of %d bytes, %d, not %d, of %d (%d more stood behind them)", len(l), n, e, len(wanted), len(b), len(more))
		}
		if !bytes.Equal(longer, whole) {
			t.Fatal("what was handed in changed")
		}
	}
}

// refuses asks whether bytes are refused.
func refuses(t testing.TB, b []byte, wanted api.Errno) {
	t.Helper()
	whole := bytes.Clone(b)
	if l, n, e := pool.Parse(b); len(l) != 0 || n != 0 || e != wanted {
		t.Fatalf("Parse(% x): %d places, of %d bytes, %d, not %d", b[:min(len(b), 99)], len(l), n, e, wanted)
	}
	if !bytes.Equal(b, whole) {
		t.Fatal("what was handed in changed")
	}
}

// read holds Parse against what the model tells of bytes, and answers whether they are a pool's.
func read(t testing.TB, b []byte) bool {
	t.Helper()
	l, n, e := modelParse(b)
	if e != api.OK {
		refuses(t, b, e)
		return false
	}
	parses(t, b[:n], l)
	again, e := pool.Bytes(l)
	if e != api.OK || !bytes.Equal(again, b[:n]) {
		t.Fatalf("Bytes of what Parse tells: % x, %d, not % x", again, e, b[:n])
	}
	return true
}

// tells holds Text, Class and Member against the model, at places of all kinds.
func tells(t testing.TB, l []api.Const) {
	t.Helper()
	for _, at := range places(len(l)) {
		s, ok := pool.Text(l, at)
		if wanted, there := modelText(l, at); s != wanted || ok != there {
			t.Fatalf("Text at %d of %v: %q, %v, not %q, %v", at, l, s, ok, wanted, there)
		}
		s, ok = pool.Class(l, at)
		if wanted, there := modelClass(l, at); s != wanted || ok != there {
			t.Fatalf("Class at %d of %v: %q, %v, not %q, %v", at, l, s, ok, wanted, there)
		}
		for tag := -1; tag < 15; tag++ {
			got := memberAt(l, at, tag)
			if wanted := modelMember(l, at, tag); got != wanted {
				t.Fatalf("Member at %d, of %d, of %v: %v, not %v", at, tag, l, got, wanted)
			}
		}
	}
}

// memberAt is what Member answers.
func memberAt(l []api.Const, at, tag int) member {
	var m member
	m.class, m.name, m.desc, m.ok = pool.Member(l, at, tag)
	return m
}

// dice tells numbers that look as if thrown, the same ones each time.
type dice uint64

func (d *dice) next(below int) int {
	*d = *d*6364136223846793005 + 1442695040888963407
	return int(uint64(*d)>>33) % below
}

// thrown is a pool that may be; its places stand in any order.
func thrown(d *dice) []api.Const {
	texts := []string{"", "a", "x/Y", "main", "(IJ)V", "ä", "\xc0\x80"}
	kinds := []int{1, 7, 12}
	for range d.next(30) {
		kinds = append(kinds, tags()[d.next(len(tags()))])
	}
	for i := range kinds {
		j := d.next(i + 1)
		kinds[i], kinds[j] = kinds[j], kinds[i]
	}
	by := map[int][]int{}
	n := 1
	for _, tag := range kinds {
		by[tag] = append(by[tag], n)
		n++
		if tag == 5 {
			n++
		}
	}
	some := func(tag int) int { return by[tag][d.next(len(by[tag]))] }
	l := []api.Const{{}}
	for _, tag := range kinds {
		c := api.Const{Tag: tag}
		switch tag {
		case 1:
			c.S = texts[d.next(len(texts))]
		case 3:
			c.N = int64(int32(d.next(1<<31) * 2))
		case 5:
			c.N = int64(d.next(1<<31)) << d.next(40)
		case 7, 8:
			c.A = some(1)
		case 9, 10:
			c.A, c.B = some(7), some(12)
		case 12:
			c.A, c.B = some(1), some(1)
		}
		l = append(l, c)
		if tag == 5 {
			l = append(l, api.Const{})
		}
	}
	return l
}
