package ops

import (
	"carpetbag/api"
	"carpetbag/num"
)

// How many bytes an instruction's parts have.
const (
	opSize    = 1
	byteSize  = 1
	shortSize = 2
)

// The kinds of an array's items that a FormArray tells.
const (
	byteItems = 8
	intItems  = 10
)

// part is a number behind an operation: of no bytes, where the form has none.
type part struct {
	size   int
	signed bool
}

// shape is what a form tells of A and B.
type shape struct{ a, b part }

// shapes are what forms tell; of a branch A is how far away it goes.
var shapes = [...]shape{
	api.FormNone:   {},
	api.FormLocal:  {a: part{size: byteSize}},
	api.FormByte:   {a: part{size: byteSize, signed: true}},
	api.FormShort:  {a: part{size: shortSize, signed: true}},
	api.FormConst:  {a: part{size: byteSize}},
	api.FormWide:   {a: part{size: shortSize}},
	api.FormBranch: {a: part{size: shortSize, signed: true}},
	api.FormInc:    {a: part{size: byteSize}, b: part{size: byteSize, signed: true}},
	api.FormArray:  {a: part{size: byteSize}},
}

// worth is what the bytes of v tell that the part has: 0, if it has none.
func (p part) worth(v uint64) int {
	if p.signed {
		return int(num.Sign(v, p.size))
	}
	above := 64 - 8*p.size
	return int(v << above >> above)
}

// fits asks whether the part can tell a number.
func (p part) fits(v int) bool { return p.worth(uint64(v)) == v }

// get is the number at a place where the part stands whole.
func (p part) get(b []byte, at int) int {
	v, _ := num.Get(b, at, p.size)
	return p.worth(v)
}

// put are the bytes of a number.
func (p part) put(v int) []byte { return num.Put(nil, uint64(v), p.size) }

// isKind asks whether a FormArray may tell a kind.
func isKind(kind int) bool { return kind == byteItems || kind == intItems }
