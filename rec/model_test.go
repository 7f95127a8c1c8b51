package rec_test

import (
	"bytes"
	"math"
	"testing"

	"carpetbag/api"
	"carpetbag/rec"
)

// The model makes and reads records byte by byte, as the chapter's words go, by no package of the program but api.

// sum16 is the sum of 16 bits, bit by bit.
func sum16(b []byte) uint16 {
	s := uint16(0xffff)
	for _, x := range b {
		s ^= uint16(x) * 256
		for range 8 {
			if s >= 0x8000 {
				s = s*2 ^ 0x1021
			} else {
				s = s * 2
			}
		}
	}
	return s
}

// sum32 is the sum of 32 bits, bit by bit.
func sum32(b []byte) uint32 {
	s := uint32(0xffffffff)
	for _, x := range b {
		s ^= uint32(x)
		for range 8 {
			if s%2 == 1 {
				s = s/2 ^ 0x82f63b78
			} else {
				s = s / 2
			}
		}
	}
	return ^s
}

// nine are a header's bytes ahead of its sum.
type nine [9]byte

// fields is what a header tells, by numbers that may be too great for it.
type fields struct {
	kind  int
	txn   uint32
	key   int
	blob  int
	count int
}

// lay lays fields that a header can tell.
func lay(f fields) nine {
	return nine{byte(f.kind), byte(f.txn >> 24), byte(f.txn >> 16), byte(f.txn >> 8), byte(f.txn),
		byte(f.key), byte(f.blob >> 8), byte(f.blob), byte(f.count)}
}

// read is what a header tells.
func (n nine) read() fields {
	return fields{
		kind:  int(n[0]),
		txn:   uint32(n[1])<<24 | uint32(n[2])<<16 | uint32(n[3])<<8 | uint32(n[4]),
		key:   int(n[5]),
		blob:  int(n[6])<<8 | int(n[7]),
		count: int(n[8]),
	}
}

// summed is a header with its right sum.
func (n nine) summed() []byte {
	s := sum16(n[:])
	return append(n[:], byte(s/256), byte(s%256))
}

// mayBe is the chapter's rule of which records may be.
func (f fields) mayBe() bool {
	put, del, commit := f.kind == 1, f.kind == 2, f.kind == 3
	if f.txn < 1 || !put && !del && !commit {
		return false
	}
	if commit {
		return f.key == 0 && f.blob == 0 && f.count >= 0 && f.count <= 16
	}
	if f.key < 1 || f.key > 64 || f.count != 0 {
		return false
	}
	return put && f.blob <= 4096 || del && f.blob == 0
}

// fieldsOf are a record's.
func fieldsOf(r api.Rec) fields {
	return fields{r.Kind, r.Txn, len(r.Key), len(r.Blob), r.Count}
}

// closed is a row of bytes with its sum of 32 bits behind it.
func closed(b []byte) []byte {
	s := sum32(b)
	return append(b, byte(s>>24), byte(s>>16), byte(s>>8), byte(s))
}

// made are all bytes of a record but the last one.
func made(r api.Rec) []byte {
	b := lay(fieldsOf(r)).summed()
	b = append(b, r.Key...)
	return closed(append(b, r.Blob...))
}

// told is what Parse answers.
type told struct {
	rec   api.Rec
	size  int
	whole bool
	e     api.Errno
}

// parsed is what the model reads.
func parsed(b []byte) told {
	if len(b) == 0 || b[0] == 255 {
		return told{e: api.ErrMissing}
	}
	if len(b) <= 10 {
		return told{e: api.ErrShort}
	}
	if s := sum16(b[:9]); b[9] != byte(s/256) || b[10] != byte(s%256) {
		return told{e: api.ErrSum}
	}
	f := nine(b[:9]).read()
	if !f.mayBe() {
		return told{e: api.ErrForm}
	}
	end := 11 + f.key + f.blob
	if len(b) < end+5 {
		return told{e: api.ErrShort}
	}
	if !bytes.Equal(closed(append([]byte(nil), b[:end]...)), b[:end+4]) {
		return told{size: end + 5}
	}
	r := api.Rec{Kind: f.kind, Txn: f.txn, Key: string(b[11 : 11+f.key]), Count: f.count}
	r.Blob = append(r.Blob, b[11+f.key:end]...)
	return told{r, end + 5, b[end+4] == 0, api.OK}
}

// sameRec asks whether two records are the same, an empty blob being none.
func sameRec(a, b api.Rec) bool {
	return a.Kind == b.Kind && a.Txn == b.Txn && a.Key == b.Key && a.Count == b.Count && bytes.Equal(a.Blob, b.Blob)
}

// answers holds what Parse answers against what is wanted.
func answers(t *testing.T, b []byte, wanted told) {
	t.Helper()
	r, size, whole, e := rec.Parse(b)
	if !sameRec(r, wanted.rec) || size != wanted.size || whole != wanted.whole || e != wanted.e {
		t.Fatalf("Parse of %d bytes (% x): %v, %d, %v, %d, not %v", len(b), b[:min(len(b), 20)], r, size, whole, e, wanted)
	}
}

// refused holds what Parse answers against an error.
func refused(t *testing.T, b []byte, wanted api.Errno) {
	t.Helper()
	answers(t, b, told{e: wanted})
}

// joined are rows, one behind the other, in new memory.
func joined(rows ...[]byte) []byte { return bytes.Join(rows, nil) }

// same is n bytes x.
func same(x byte, n int) []byte { return bytes.Repeat([]byte{x}, n) }

// dice tells numbers that look as if thrown, the same ones each time.
type dice uint64

func (d *dice) next() uint32 {
	*d = *d*6364136223846793005 + 1442695040888963407
	return uint32(*d >> 32)
}

func (d *dice) below(n int) int { return int(d.next() % uint32(n)) }

func (d *dice) bytes(n int) []byte {
	b := make([]byte, n)
	for i := range b {
		b[i] = byte(d.next() >> 8)
	}
	return b
}

// kinds are those of records, and others.
func kinds() []int {
	return []int{1, 2, 3, 0, 4, 5, -1, -2, -3, 127, 128, 254, 255, 256, 257, 258, 259, 513, -255, -254, -253,
		1<<32 + 1, 1<<32 + 2, 1<<32 + 3, math.MinInt, math.MinInt + 1, math.MinInt + 3, math.MaxInt, math.MaxInt - 1}
}

// txns are 0, the edges and others.
func txns() []uint32 {
	return []uint32{0, 1, 2, 255, 256, 0x01020304, math.MaxInt32, 1 << 31, 1 << 24, math.MaxUint32 - 1, math.MaxUint32}
}

// keySizes are lengths of keys, some of which are others in a byte.
func keySizes() []int { return []int{0, 1, 2, 63, 64, 65, 128, 255, 256, 257, 320, 321} }

// blobSizes are lengths of blobs, some of which are others in two bytes.
func blobSizes() []int { return []int{0, 1, 2, 255, 256, 4095, 4096, 4097, 65535, 65536, 65537, 69632} }

// counts are Counts, some of which are others in a byte.
func counts() []int {
	return []int{0, 1, 2, 15, 16, 17, -1, -16, 255, 256, 257, 272, 1 << 32, 1<<32 + 1, math.MinInt, math.MinInt + 1, math.MaxInt}
}

// good are records that may be: of each kind, with keys and blobs of many lengths and bytes.
func good() []api.Rec {
	d := dice(5)
	list := []api.Rec{
		{Kind: 1, Txn: 1, Key: "a", Blob: []byte{1, 2}},
		{Kind: 1, Txn: 1, Key: "a", Blob: nil},
		{Kind: 1, Txn: 1, Key: "\x00", Blob: []byte{0}},
		{Kind: 1, Txn: 1, Key: "\xff\xfe\xc3", Blob: []byte{255, 255}},
		{Kind: 1, Txn: math.MaxUint32, Key: "Käfer", Blob: []byte("ä")},
		{Kind: 2, Txn: math.MaxUint32, Key: "\xff", Blob: []byte{}},
	}
	for _, txn := range txns()[1:] {
		for _, n := range []int{1, 2, 63, 64} {
			key := string(d.bytes(n))
			list = append(list, api.Rec{Kind: 2, Txn: txn, Key: key})
			for _, m := range []int{0, 1, 2, 255, 256, 300} {
				list = append(list, api.Rec{Kind: 1, Txn: txn, Key: key, Blob: d.bytes(m)})
			}
		}
		for count := range 17 {
			list = append(list, api.Rec{Kind: 3, Txn: txn, Count: count})
		}
	}
	for _, n := range []int{1, 64} {
		for _, m := range []int{4095, 4096} {
			list = append(list, api.Rec{Kind: 1, Txn: d.next() | 1, Key: string(d.bytes(n)), Blob: d.bytes(m)})
		}
	}
	return list
}
