package rec_test

import (
	"bytes"
	"math"
	"strings"
	"testing"

	"carpetbag/api"
	"carpetbag/rec"
)

// written are records, and all their bytes but the last one, written out.
func written() []struct {
	rec   api.Rec
	bytes []byte
} {
	return []struct {
		rec   api.Rec
		bytes []byte
	}{
		{api.Rec{Kind: 3, Txn: 1},
			[]byte{3, 0, 0, 0, 1, 0, 0, 0, 0, 0x9f, 0x67, 0xe8, 0xdf, 0x02, 0x8e}},
		{api.Rec{Kind: 3, Txn: math.MaxUint32, Count: 16},
			[]byte{3, 255, 255, 255, 255, 0, 0, 0, 16, 0x18, 0x29, 0x80, 0xf1, 0xcd, 0x7f}},
		{api.Rec{Kind: 1, Txn: 1, Key: "a", Blob: []byte{1, 2}},
			[]byte{1, 0, 0, 0, 1, 1, 0, 2, 0, 0x49, 0xd6, 'a', 1, 2, 0xa2, 0xfb, 0xac, 0xfd}},
		{api.Rec{Kind: 2, Txn: 0x01020304, Key: "key"},
			[]byte{2, 1, 2, 3, 4, 3, 0, 0, 0, 0x25, 0x1f, 'k', 'e', 'y', 0xef, 0xf4, 0xc2, 0x29}},
		{api.Rec{Kind: 1, Txn: 2, Key: "\xff"},
			[]byte{1, 0, 0, 0, 2, 1, 0, 0, 0, 0xc1, 0x66, 0xff, 0x4d, 0x47, 0xf5, 0x6a}},
	}
}

// makes holds what Bytes answers against what is wanted.
func makes(t *testing.T, r api.Rec, wanted []byte) {
	t.Helper()
	b, e := rec.Bytes(r)
	if e != api.OK || !bytes.Equal(b, wanted) {
		t.Fatalf("Bytes(%v): % x, %d, not % x", r, b, e, wanted)
	}
	if size := rec.Size(r); size != len(wanted)+1 {
		t.Fatalf("Size(%v): %d, not %d", r, size, len(wanted)+1)
	}
}

// makesNone asks for Bytes that are refused.
func makesNone(t *testing.T, r api.Rec) {
	t.Helper()
	if b, e := rec.Bytes(r); b != nil || e != api.ErrForm {
		t.Fatalf("Bytes of Kind %d, Txn %d, a Key of %d, a Blob of %d, Count %d: %d bytes, %d",
			r.Kind, r.Txn, len(r.Key), len(r.Blob), r.Count, len(b), e)
	}
}

// judged holds what Bytes answers against the model's rule.
func judged(t *testing.T, r api.Rec) {
	t.Helper()
	if fieldsOf(r).mayBe() {
		makes(t, r, made(r))
		return
	}
	makesNone(t, r)
}

// P5.1: Size.

func TestExample(t *testing.T) {
	if n := rec.Size(api.Rec{Kind: api.RecCommit, Txn: 1}); n != 16 {
		t.Error(n)
	}
}

func TestSize(t *testing.T) {
	for _, x := range []struct {
		rec  api.Rec
		size int
	}{
		{api.Rec{Kind: 3, Txn: 9, Count: 16}, 16},
		{api.Rec{Kind: 1, Txn: 1, Key: "a"}, 17},
		{api.Rec{Kind: 1, Txn: 1, Key: "a", Blob: []byte{1, 2}}, 19},
		{api.Rec{Kind: 2, Txn: 1, Key: "ab"}, 18},
		{api.Rec{Kind: 2, Txn: math.MaxUint32, Key: strings.Repeat("k", 64)}, 80},
		{api.Rec{Kind: 1, Txn: 1, Key: strings.Repeat("k", 64), Blob: make([]byte, 4096)}, 4176},
		{api.Rec{Kind: 1, Txn: 1, Key: "ä"}, 18}, // bytes count, not letters
	} {
		if n := rec.Size(x.rec); n != x.size {
			t.Errorf("Size(%v): %d, not %d", x.rec, n, x.size)
		}
	}
}

func TestSizeOfWhatMayNotBe(t *testing.T) {
	for _, kind := range kinds() {
		for _, count := range counts() {
			for _, n := range keySizes() {
				r := api.Rec{Kind: kind, Key: strings.Repeat("k", n), Count: count}
				if got := rec.Size(r); got != 16+n {
					t.Fatalf("Size of Kind %d, Count %d, a Key of %d: %d", kind, count, n, got)
				}
			}
			for _, n := range blobSizes() {
				r := api.Rec{Kind: kind, Blob: make([]byte, n), Count: count}
				if got := rec.Size(r); got != 16+n {
					t.Fatalf("Size of Kind %d, Count %d, a Blob of %d: %d", kind, count, n, got)
				}
			}
		}
	}
}

// P5.1: Bytes.

func TestBytesWrittenOut(t *testing.T) {
	for _, x := range written() {
		makes(t, x.rec, x.bytes)
		if !bytes.Equal(made(x.rec), x.bytes) {
			t.Fatalf("the model makes % x of %v", made(x.rec), x.rec)
		}
	}
}

func TestBytesOfWhatMayBe(t *testing.T) {
	for _, r := range good() {
		if !fieldsOf(r).mayBe() {
			t.Fatalf("%v may not be", r)
		}
		makes(t, r, made(r))
	}
}

func TestBytesOfEachKind(t *testing.T) {
	for _, kind := range append(kinds(), row(-300, 600)...) {
		judged(t, api.Rec{Kind: kind, Txn: 1, Key: "k"})
		judged(t, api.Rec{Kind: kind, Txn: 1})
	}
}

// row are numbers from one to another.
func row(from, to int) []int {
	var l []int
	for n := from; n <= to; n++ {
		l = append(l, n)
	}
	return l
}

func TestBytesOfEachTxn(t *testing.T) {
	for _, txn := range txns() {
		judged(t, api.Rec{Kind: 1, Txn: txn, Key: "k", Blob: []byte{7}})
		judged(t, api.Rec{Kind: 2, Txn: txn, Key: "k"})
		judged(t, api.Rec{Kind: 3, Txn: txn, Count: 3})
	}
	for _, kind := range []int{1, 2, 3} {
		makesNone(t, api.Rec{Kind: kind, Key: "k"})
		makesNone(t, api.Rec{Kind: kind})
	}
}

func TestBytesOfEachLengthOfAKey(t *testing.T) {
	for _, n := range append(keySizes(), row(0, 70)...) {
		key := strings.Repeat("k", n)
		for _, kind := range []int{1, 2, 3} {
			judged(t, api.Rec{Kind: kind, Txn: 1, Key: key})
		}
		judged(t, api.Rec{Kind: 1, Txn: 1, Key: key, Blob: make([]byte, 9)})
	}
	makesNone(t, api.Rec{Kind: 1, Txn: 1, Key: strings.Repeat("ä", 33)}) // bytes count, not letters
	makesNone(t, api.Rec{Kind: 1, Txn: 1})
	makesNone(t, api.Rec{Kind: 2, Txn: 1})
	makesNone(t, api.Rec{Kind: 3, Txn: 1, Key: "k"})
}

func TestBytesOfEachByteInKeyAndBlob(t *testing.T) {
	for x := range 256 {
		r := api.Rec{Kind: 1, Txn: 1, Key: string([]byte{byte(x)}), Blob: []byte{byte(x)}}
		makes(t, r, made(r))
		r = api.Rec{Kind: 2, Txn: 1, Key: string([]byte{'k', byte(x)})}
		makes(t, r, made(r))
	}
}

func TestBytesOfEachLengthOfABlob(t *testing.T) {
	d := dice(6)
	for _, n := range append(append(blobSizes(), row(0, 520)...), row(4080, 4110)...) {
		blob := d.bytes(n)
		for _, kind := range []int{1, 2, 3} {
			judged(t, api.Rec{Kind: kind, Txn: 1, Key: "k", Blob: blob})
			judged(t, api.Rec{Kind: kind, Txn: 1, Blob: blob})
		}
	}
	makesNone(t, api.Rec{Kind: 1, Txn: 1, Key: "k", Blob: make([]byte, 4097)})
	makesNone(t, api.Rec{Kind: 2, Txn: 1, Key: "k", Blob: make([]byte, 1)})
	makesNone(t, api.Rec{Kind: 3, Txn: 1, Blob: make([]byte, 1)})
}

func TestBytesOfNoBlobAndOfAnEmptyOne(t *testing.T) {
	for _, blob := range [][]byte{nil, {}} {
		for _, r := range []api.Rec{
			{Kind: 1, Txn: 1, Key: "k", Blob: blob},
			{Kind: 2, Txn: 1, Key: "k", Blob: blob},
			{Kind: 3, Txn: 1, Blob: blob},
		} {
			makes(t, r, made(r))
		}
	}
}

func TestBytesOfEachCount(t *testing.T) {
	for _, count := range append(counts(), row(-20, 300)...) {
		judged(t, api.Rec{Kind: 1, Txn: 1, Key: "k", Blob: []byte{7}, Count: count})
		judged(t, api.Rec{Kind: 1, Txn: 1, Key: "k", Count: count})
		judged(t, api.Rec{Kind: 2, Txn: 1, Key: "k", Count: count})
		judged(t, api.Rec{Kind: 3, Txn: 1, Count: count})
	}
	makesNone(t, api.Rec{Kind: 3, Txn: 1, Count: 17})
	makesNone(t, api.Rec{Kind: 3, Txn: 1, Count: -1})
	makesNone(t, api.Rec{Kind: 1, Txn: 1, Key: "k", Count: 1})
	makesNone(t, api.Rec{Kind: 2, Txn: 1, Key: "k", Count: 1})
}

func TestBytesOfAllTogether(t *testing.T) {
	for _, kind := range kinds() {
		for _, txn := range []uint32{0, 1, math.MaxUint32} {
			for _, count := range counts() {
				for _, key := range keySizes() {
					for _, blob := range []int{0, 1, 4096, 4097, 65536} {
						judged(t, api.Rec{Kind: kind, Txn: txn, Key: longKey[:key], Blob: longBlob[:blob], Count: count})
					}
				}
			}
		}
	}
}

var longKey, longBlob = strings.Repeat("k", 400), make([]byte, 70000)

func TestBytesChangesAndKeepsNothing(t *testing.T) {
	spare := []byte("0123456789")
	r := api.Rec{Kind: 1, Txn: 1, Key: "k", Blob: spare[:4]}
	wanted := made(r)
	a, _ := rec.Bytes(r)
	b, _ := rec.Bytes(r)
	if string(spare) != "0123456789" {
		t.Fatalf("the blob, or its spare room, became %q", spare)
	}
	copy(spare, "----------")
	if !bytes.Equal(a, wanted) {
		t.Fatal("what was answered shares the blob's memory")
	}
	_ = append(a[:0], same(9, cap(a))...)
	if !bytes.Equal(b, wanted) {
		t.Fatal("two answers share memory")
	}
	if string(spare) != "----------" {
		t.Fatal("what was answered, or its spare room, shares the blob's memory")
	}
}
