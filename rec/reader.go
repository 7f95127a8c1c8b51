package rec

import (
	"carpetbag/api"
	"carpetbag/num"
)

// reader reads bytes from place to place; whoever asks knows that they are there.
type reader struct {
	b  []byte
	at int
}

// number is the number of n bytes that stands next.
func (r *reader) number(n int) uint64 {
	v, _ := num.Get(r.b, r.at, n)
	r.at += n
	return v
}

// bytes are the next n ones, in new memory.
func (r *reader) bytes(n int) []byte {
	from := r.at
	r.at += n
	return append([]byte(nil), r.b[from:r.at]...)
}

// head is the header that stands next, but for its sum.
func (r *reader) head() head {
	var h head
	h.kind = int(r.number(kindSize))
	h.txn = uint32(r.number(txnSize))
	h.key = int(r.number(keyLenSize))
	h.blob = int(r.number(blobLenSize))
	h.count = int(r.number(countSize))
	return h
}

// record is the record of a header whose key stands next.
func (r *reader) record(h head) api.Rec {
	key := string(r.bytes(h.key))
	return api.Rec{Kind: h.kind, Txn: h.txn, Key: key, Blob: r.bytes(h.blob), Count: h.count}
}
