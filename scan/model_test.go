package scan_test

import (
	"bytes"
	"math/rand/v2"
	"testing"

	"carpetbag/api"
	"carpetbag/rec"
	"carpetbag/scan"
)

// headSize is how many bytes a header has, as chapter 4 tells.
const headSize = 12

// told is what Scan answers.
type told struct {
	found  []api.Found
	next   int
	closed bool
}

// from is what the chapter's words tell of a sector's bytes from a place on.
func from(b []byte, at int) told {
	if bytes.Count(b[at:], []byte{255}) == len(b)-at {
		return told{next: at}
	}
	r, size, whole, e := rec.Parse(b[at:])
	if e != api.OK {
		return told{next: len(b), closed: true}
	}
	behind := from(b, at+size)
	if whole {
		behind.found = append([]api.Found{{At: at, Rec: r}}, behind.found...)
		return behind
	}
	behind.closed = true
	return behind
}

// scanned is what the chapter's words tell of a sector's bytes.
func scanned(b []byte) told {
	if len(b) < headSize {
		return told{next: len(b), closed: true}
	}
	return from(b, headSize)
}

// answers holds what Scan answers against what is wanted.
func answers(t *testing.T, b []byte, wanted told) {
	t.Helper()
	found, next, closed := scan.Scan(b)
	if !sameFound(found, wanted.found) || next != wanted.next || closed != wanted.closed {
		t.Fatalf("Scan of %d bytes (.. % x): %v, %d, %v, not %v",
			len(b), b[min(len(b), headSize):min(len(b), 80)], found, next, closed, wanted)
	}
}

// sameFound asks whether two lists are the same, an empty blob being none.
func sameFound(a, b []api.Found) bool {
	if len(a) != len(b) {
		return false
	}
	for i := range a {
		if a[i].At != b[i].At || !sameRec(a[i].Rec, b[i].Rec) {
			return false
		}
	}
	return true
}

// sameRec asks whether two records are the same, an empty blob being none.
func sameRec(a, b api.Rec) bool {
	return a.Kind == b.Kind && a.Txn == b.Txn && a.Key == b.Key && a.Count == b.Count && bytes.Equal(a.Blob, b.Blob)
}

// head is a header.
func head() []byte { return []byte{'C', 'B', 0, 0, 0, 1, 0xef, 0x2a, 0, 255, 255, 255} }

// same is n bytes x.
func same(x byte, n int) []byte { return bytes.Repeat([]byte{x}, n) }

// joined are rows, one behind the other, in new memory.
func joined(rows ...[]byte) []byte { return bytes.Join(rows, nil) }

// dice tells numbers that look as if thrown, the same ones each time.
func dice(seed uint64) *rand.Rand { return rand.New(rand.NewPCG(6, seed)) }

// thrown are n bytes that look as if thrown.
func thrown(d *rand.Rand, n int) []byte {
	b := make([]byte, n)
	for i := range b {
		b[i] = byte(d.Uint32())
	}
	return b
}

// laid are a record's bytes, the last one being as told.
func laid(r api.Rec, last byte) []byte {
	b, e := rec.Bytes(r)
	if e != api.OK {
		panic("a record that may not be")
	}
	return append(b, last)
}

// whole are a whole record's bytes.
func whole(r api.Rec) []byte { return laid(r, 0) }

// unsummed are a record's bytes, all of them, that haven't their sum of 32 bits.
func unsummed(r api.Rec) []byte {
	b := whole(r)
	b[len(b)-2] ^= 1
	return b
}

// records are some of each kind.
func records() []api.Rec {
	list := []api.Rec{
		{Kind: 1, Txn: 1, Key: "a", Blob: []byte{1, 2}},
		{Kind: 1, Txn: 2, Key: "empty"},
		{Kind: 1, Txn: 1<<32 - 1, Key: "\xff\xff", Blob: same(255, 40)},
		{Kind: 1, Txn: 1 << 31, Key: "\x00", Blob: same(0, 40)},
		{Kind: 1, Txn: 7, Key: "within", Blob: whole(api.Rec{Kind: 1, Txn: 7, Key: "in", Blob: []byte{3}})},
		{Kind: 1, Txn: 3, Key: string(same('k', 64)), Blob: thrown(dice(1), 300)},
		{Kind: 2, Txn: 1, Key: "a"},
		{Kind: 2, Txn: 1<<32 - 1, Key: string(same(255, 64))},
	}
	for _, count := range []int{0, 1, 2, 15, 16} {
		list = append(list, api.Rec{Kind: 3, Txn: 5, Count: count})
	}
	return list
}

// row is what a sector has, laid piece by piece, and what of it is told.
type row struct {
	bytes []byte
	told  told
	lost  bool // whether something stands there that can't be parsed
}

// begun is a sector with a header alone.
func begun() *row { return &row{bytes: head(), told: told{next: headSize}} }

// whole lays a whole record.
func (w *row) whole(r api.Rec) *row {
	if !w.lost {
		w.told.found = append(w.told.found, api.Found{At: len(w.bytes), Rec: r})
	}
	return w.lay(whole(r))
}

// unwhole lays a record's bytes that aren't whole.
func (w *row) unwhole(b []byte) *row {
	w.told.closed = true
	return w.lay(b)
}

// stray lays bytes that can't be parsed.
func (w *row) stray(b []byte) *row {
	w.lost = true
	w.told.closed = true
	return w.lay(b)
}

// blank lays bytes that are 255, behind all others.
func (w *row) blank(n int) *row {
	next := w.told.next
	w.lay(same(255, n))
	if !w.lost {
		w.told.next = next
	}
	return w
}

// lay lays bytes.
func (w *row) lay(b []byte) *row {
	w.bytes = append(w.bytes, b...)
	w.told.next = len(w.bytes)
	return w
}

// is holds what Scan answers of the row against what is told of it.
func (w *row) is(t *testing.T) {
	t.Helper()
	answers(t, w.bytes, w.told)
}
