package rms

import (
	"bytes"

	"carpetbag/api"
	"carpetbag/num"
)

// reader reads a record store's bytes, one thing behind the other.
type reader struct {
	rest  []byte
	short bool // something wasn't all there
}

// records is a record store, whether it may be or not.
func (in *reader) records() api.Records {
	var r api.Records
	r.Next = uint32(in.number(nextSize))
	r.Version = uint32(in.number(versionSize))
	for range in.number(countSize) {
		if in.short {
			break
		}
		r.List = append(r.List, in.entry())
	}
	return r
}

// entry is an entry.
func (in *reader) entry() api.Entry {
	id := uint32(in.number(idSize))
	return api.Entry{ID: id, Data: in.data(int(in.number(lengthSize)))}
}

// number is a number of n bytes.
func (in *reader) number(n int) uint64 {
	v, e := num.Get(in.rest, 0, n)
	if e != api.OK {
		in.short = true
		return 0
	}
	in.rest = in.rest[n:]
	return v
}

// data is n bytes, in memory of their own.
func (in *reader) data(n int) []byte {
	if n > len(in.rest) {
		in.short = true
		return nil
	}
	b := bytes.Clone(in.rest[:n])
	in.rest = in.rest[n:]
	return b
}
