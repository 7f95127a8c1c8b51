package rms_test

import (
	"bytes"
	"math"
	"math/rand/v2"
	"slices"
	"testing"

	"carpetbag/api"
	"carpetbag/rms"
)

// entry is an entry of so many bytes.
func entry(id uint32, n int) api.Entry {
	return api.Entry{ID: id, Data: bytes.Repeat([]byte{byte(id)}, n)}
}

// row is n entries without data, of the IDs from 1 on.
func row(n int) []api.Entry {
	var l []api.Entry
	for i := range n {
		l = append(l, entry(uint32(i+1), 0))
	}
	return l
}

// long is n entries of 512 bytes.
func long(n int) []api.Entry {
	l := row(n)
	for i := range l {
		l[i] = entry(l[i].ID, 512)
	}
	return l
}

// mayBe are record stores that may be.
func mayBe() []api.Records {
	const last = math.MaxUint32
	return []api.Records{
		{Next: 1},
		{Next: 1, List: []api.Entry{}},
		{Next: 2, Version: 1},
		{Next: last, Version: last},
		{Next: last - 1, Version: last - 1},
		{Next: 0x01020304, Version: 0x05060708},
		{Next: 2, List: []api.Entry{entry(1, 0)}},
		{Next: 2, List: []api.Entry{entry(1, 1)}},
		{Next: 3, List: []api.Entry{entry(1, 511)}},
		{Next: 3, List: []api.Entry{entry(2, 512)}},
		{Next: 9, Version: 7, List: []api.Entry{entry(2, 3), entry(3, 0), entry(8, 256)}},
		{Next: last, List: []api.Entry{entry(last-1, 2)}},
		{Next: last, List: []api.Entry{entry(1, 2), entry(last-2, 2), entry(last-1, 2)}},
		{Next: 1 << 31, List: []api.Entry{entry(1<<31-1, 255)}},
		{Next: 1<<31 + 1, List: []api.Entry{entry(1<<31-1, 255), entry(1<<31, 257)}},
		{Next: 64, List: row(63)},
		{Next: 65, List: row(64)},
		{Next: 65, Version: last, List: long(64)},
	}
}

// mayNotBe are record stores that may not be.
func mayNotBe() []api.Records {
	const last = math.MaxUint32
	many := row(66000)
	return []api.Records{
		{},
		{Version: 1},
		{Next: 0, List: []api.Entry{entry(1, 1)}},
		{Next: 0, List: []api.Entry{entry(0, 1)}},
		{Next: 1, List: []api.Entry{entry(0, 1)}},
		{Next: 2, List: []api.Entry{entry(0, 1)}},
		{Next: 2, List: []api.Entry{entry(0, 1), entry(1, 1)}},
		{Next: 1, List: []api.Entry{entry(1, 1)}},
		{Next: 2, List: []api.Entry{entry(2, 1)}},
		{Next: 2, List: []api.Entry{entry(3, 1)}},
		{Next: 3, List: []api.Entry{entry(1, 1), entry(3, 1)}},
		{Next: 3, List: []api.Entry{entry(3, 1), entry(1, 1)}},
		{Next: 9, List: []api.Entry{entry(2, 1), entry(1, 1)}},
		{Next: 9, List: []api.Entry{entry(1, 1), entry(1, 1)}},
		{Next: 9, List: []api.Entry{entry(1, 1), entry(2, 1), entry(2, 1), entry(3, 1)}},
		{Next: 9, List: []api.Entry{entry(1, 1), entry(3, 1), entry(2, 1)}},
		{Next: last, List: []api.Entry{entry(last, 1)}},
		{Next: last, List: []api.Entry{entry(last-1, 1), entry(1, 1)}},
		{Next: 2, List: []api.Entry{entry(1, 513)}},
		{Next: 2, List: []api.Entry{entry(1, 65535)}},
		{Next: 2, List: []api.Entry{entry(1, 65536)}},
		{Next: 2, List: []api.Entry{entry(1, 65537)}},
		{Next: 4, List: []api.Entry{entry(1, 1), entry(2, 513), entry(3, 1)}},
		{Next: 3, List: []api.Entry{entry(1, 1), entry(2, 513)}},
		{Next: 66, List: row(65)},
		{Next: 1000, List: row(65)},
		{Next: 1000, List: long(65)},
		{Next: last, List: many[:256]},
		{Next: last, List: many[:257]},
		{Next: last, List: many[:65535]},
		{Next: last, List: many[:65536]},
		{Next: last, List: many[:65537]},
	}
}

// The chapter's example.
func TestBytesOfAnEmptyOne(t *testing.T) {
	b, e := rms.Bytes(api.Records{Next: 1})
	if e != api.OK || !bytes.Equal(b, []byte{0, 0, 0, 1, 0, 0, 0, 0, 0, 0}) {
		t.Errorf("% x, %d", b, e)
	}
}

// P9.1, with bytes written out.
func TestBytesWrittenOut(t *testing.T) {
	r := api.Records{Next: 0x01020304, Version: 0x05060708, List: []api.Entry{
		{ID: 1, Data: []byte("ab")}, {ID: 0x00a0b0c0, Data: nil}, {ID: 0x01020303, Data: make([]byte, 258)},
	}}
	want := []byte{1, 2, 3, 4, 5, 6, 7, 8, 0, 3,
		0, 0, 0, 1, 0, 2, 'a', 'b',
		0, 0xa0, 0xb0, 0xc0, 0, 0,
		1, 2, 3, 3, 1, 2}
	want = append(want, make([]byte, 258)...)
	if b, e := rms.Bytes(r); e != api.OK || !bytes.Equal(b, want) {
		t.Errorf("% x, %d", b, e)
	}
	if got, e := rms.Parse(want); e != api.OK || !same(got, r) {
		t.Errorf("%v, %d", got, e)
	}
}

// P9.1: what may be has its bytes, and is parsed from them.
func TestBytesThereAndBack(t *testing.T) {
	for _, r := range mayBe() {
		b, e := rms.Bytes(r)
		if e != api.OK || !bytes.Equal(b, modelBytes(r)) {
			t.Errorf("Bytes of %d, %d, %d entries: %d bytes, %d", r.Next, r.Version, len(r.List), len(b), e)
		}
		got, e := rms.Parse(modelBytes(r))
		if e != api.OK || !same(got, r) {
			t.Errorf("Parse of %d, %d, %d entries: %v, %d", r.Next, r.Version, len(r.List), got, e)
		}
	}
}

// P9.1: what may not be has no bytes, and none are parsed as it.
func TestBytesOfWhatMayNotBe(t *testing.T) {
	for _, r := range mayNotBe() {
		if b, e := rms.Bytes(r); b != nil || e != api.ErrForm {
			t.Errorf("Bytes of %d, %d, %d entries: %d bytes, %d", r.Next, r.Version, len(r.List), len(b), e)
		}
		parseFails(t, modelBytes(r))
	}
}

// parseFails holds Parse against ErrForm.
func parseFails(t *testing.T, b []byte) {
	t.Helper()
	if r, e := rms.Parse(b); e != api.ErrForm || !same(r, api.Records{}) || r.List != nil {
		t.Errorf("Parse of %d bytes, % x: %v, %d", len(b), b[:min(len(b), 30)], r, e)
	}
}

// P9.1: bytes that are cut short, or have more behind them, are no record store's.
func TestParseCutAndLeftOver(t *testing.T) {
	for _, r := range mayBe() {
		b := modelBytes(r)
		if len(b) > 2000 {
			b = modelBytes(api.Records{Next: 65, List: slices.Concat(long(2), []api.Entry{entry(3, 5)})})
		}
		for n := range b {
			parseFails(t, b[:n:n])
			// What stands behind the bytes, in the same memory, isn't theirs.
			parseFails(t, b[:n])
		}
		for _, behind := range [][]byte{{0}, {255}, {0, 0}, make([]byte, 6), make([]byte, 10), b} {
			parseFails(t, slices.Concat(b, behind))
			parseFails(t, slices.Concat(behind[:1], b))
		}
	}
	parseFails(t, nil)
	parseFails(t, []byte{})
}

// Counts and lengths that tell of more, or of less, than there is.
func TestParseOfWrongCounts(t *testing.T) {
	for _, r := range []api.Records{{Next: 1}, {Next: 9, List: []api.Entry{entry(1, 3)}}, {Next: 9, List: []api.Entry{entry(1, 3), entry(2, 300)}}} {
		for n := range 300 {
			holdParse(t, slices.Replace(modelBytes(r), 8, 10, number(n, 2)...))
		}
		holdParse(t, slices.Replace(modelBytes(r), 8, 10, 255, 255))
		for n := range 1000 {
			if len(r.List) > 0 {
				holdParse(t, slices.Replace(modelBytes(r), 14, 16, number(n, 2)...))
			}
		}
	}
	// As many entries as a count of two bytes tells, all of them there.
	parseFails(t, modelBytes(api.Records{Next: math.MaxUint32, List: row(65535)}))
}

// holdParse holds Parse against the model, and what it reads against Bytes.
func holdParse(t *testing.T, b []byte) bool {
	t.Helper()
	want, ok := modelParse(b)
	if !ok {
		parseFails(t, b)
		return false
	}
	got, e := rms.Parse(b)
	if e != api.OK || !same(got, want) {
		t.Errorf("Parse of % x: %v, %d, want %v", b, got, e, want)
	}
	if again, e := rms.Bytes(got); e != api.OK || !bytes.Equal(again, b) {
		t.Errorf("% x are parsed, and made once more as % x, %d", b, again, e)
	}
	return true
}

// P9.1: any bytes, and right ones of which some are others.
func TestParseOfAnyBytes(t *testing.T) {
	r := rand.New(rand.NewPCG(9, 1))
	right := 0
	for range 100000 {
		b := make([]byte, r.IntN(30))
		for i := range b {
			b[i] = byte(r.IntN(4))
			if i%4 < 3 {
				b[i] = byte(r.IntN(9) / 8)
			}
		}
		if holdParse(t, b) {
			right++
		}
	}
	base := modelBytes(api.Records{Next: 300, Version: 3, List: []api.Entry{entry(1, 2), entry(2, 0), entry(258, 3)}})
	for i := range base {
		for x := range 256 {
			if holdParse(t, slices.Replace(slices.Clone(base), i, i+1, byte(x))) {
				right++
			}
		}
	}
	if right < 1000 {
		t.Errorf("only %d of them were right", right)
	}
}

// What is handed in to Bytes is neither changed nor kept, its spare room neither.
func TestBytesAreNew(t *testing.T) {
	data := []byte("abcdef")
	list := []api.Entry{{ID: 1, Data: data[:2]}, {ID: 2, Data: data[2:4]}, {ID: 77, Data: []byte("spare")}}
	r := api.Records{Next: 3, List: list[:2]}
	want := modelBytes(r)
	a, _ := rms.Bytes(r)
	b, _ := rms.Bytes(r)
	for i := range a {
		a[i] = 255
	}
	if string(data) != "abcdef" || list[2].ID != 77 || string(list[2].Data) != "spare" || !bytes.Equal(b, want) {
		t.Errorf("%q, %v, % x", data, list, b)
	}
	copy(data, "XXXXXX")
	if !bytes.Equal(b, want) {
		t.Errorf("% x", b)
	}
	_ = append(b, 1)
	if c, _ := rms.Bytes(api.Records{Next: 1}); !bytes.Equal(c, []byte{0, 0, 0, 1, 0, 0, 0, 0, 0, 0}) {
		t.Errorf("% x", c)
	}
}

// What Parse answers shares no memory with what it read, nor one entry with another.
func TestParseIsNew(t *testing.T) {
	want := api.Records{Next: 5, List: []api.Entry{{ID: 1, Data: []byte("ab")}, {ID: 2, Data: []byte("cd")}, {ID: 3}, {ID: 4, Data: []byte("ef")}}}
	b := modelBytes(want)
	kept := slices.Clone(b)
	got, _ := rms.Parse(b)
	for i := range got.List {
		_ = append(got.List[i].Data, "XXXXXXXXXXXX"...)
	}
	if !bytes.Equal(b, kept) || !same(got, want) {
		t.Errorf("what is put behind data changed % x, %v", b, got)
	}
	for i := range b {
		b[i] = 255
	}
	if !same(got, want) {
		t.Errorf("%v", got)
	}
	got.List[0].Data[0] = 'X'
	if again, _ := rms.Parse(kept); !same(again, want) {
		t.Errorf("%v", again)
	}
}
