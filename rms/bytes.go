package rms

import (
	"carpetbag/api"
	"carpetbag/num"
)

// How many bytes the numbers of a record store have.
const (
	nextSize    = 4
	versionSize = 4
	countSize   = 2
	idSize      = 4
	lengthSize  = 2
)

// Bytes are a record store's.
func Bytes(r api.Records) ([]byte, api.Errno) {
	if !mayBe(r) {
		return nil, api.ErrForm
	}
	b := num.Put(nil, uint64(r.Next), nextSize)
	b = num.Put(b, uint64(r.Version), versionSize)
	b = num.Put(b, uint64(len(r.List)), countSize)
	for _, x := range r.List {
		b = append(b, num.Put(nil, uint64(x.ID), idSize)...)
		b = append(b, num.Put(nil, uint64(len(x.Data)), lengthSize)...)
		b = append(b, x.Data...)
	}
	return b, api.OK
}

// mayBe asks whether a record store may be.
func mayBe(r api.Records) bool {
	if r.Next == 0 || len(r.List) > api.MaxRecords {
		return false
	}
	last := uint32(0)
	for _, x := range r.List {
		if x.ID <= last || x.ID >= r.Next || len(x.Data) > api.MaxRecord {
			return false
		}
		last = x.ID
	}
	return true
}

// Parse reads a record store.
func Parse(b []byte) (api.Records, api.Errno) {
	in := reader{rest: b}
	r := in.records()
	if in.short || len(in.rest) > 0 || !mayBe(r) {
		return api.Records{}, api.ErrForm
	}
	return r, api.OK
}
