package rec

import (
	"carpetbag/api"
	"carpetbag/crc"
	"carpetbag/num"
)

// head is what a header tells; of key and blob it is their lengths.
type head struct {
	kind  int
	txn   uint32
	key   int
	blob  int
	count int
}

// headOf is what a record's header tells.
func headOf(r api.Rec) head {
	return head{kind: r.Kind, txn: r.Txn, key: len(r.Key), blob: len(r.Blob), count: r.Count}
}

// size is how many bytes the record has.
func (h head) size() int { return headSize + h.key + h.blob + tailSize }

// mayBe asks whether the record may be.
func (h head) mayBe() bool {
	if h.txn == 0 {
		return false
	}
	switch h.kind {
	case api.RecPut:
		return h.changes() && h.blob <= api.MaxBlob
	case api.RecDel:
		return h.changes() && h.blob == 0
	case api.RecCommit:
		return h.key == 0 && h.blob == 0 && 0 <= h.count && h.count <= api.MaxChanges
	}
	return false
}

// changes asks whether key and count are as a change's may be.
func (h head) changes() bool {
	return 1 <= h.key && h.key <= api.MaxKey && h.count == 0
}

// bytes are the header's, with their sum.
func (h head) bytes() []byte {
	b := num.Put(nil, uint64(h.kind), kindSize)
	b = num.Put(b, uint64(h.txn), txnSize)
	b = num.Put(b, uint64(h.key), keyLenSize)
	b = num.Put(b, uint64(h.blob), blobLenSize)
	b = num.Put(b, uint64(h.count), countSize)
	return num.Put(b, uint64(crc.Sum16(b)), headSumSize)
}
