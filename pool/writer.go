package pool

import (
	"carpetbag/api"
	"carpetbag/num"
)

// writer writes constants that may be, one behind the other.
type writer struct{ b []byte }

// number writes a number of n bytes.
func (w *writer) number(v uint64, n int) {
	// Put copies what it goes on with, which is much behind long texts.
	w.b = append(w.b, num.Put(nil, v, n)...)
}

// constant writes a constant with its Tag.
func (w *writer) constant(c api.Const) {
	f := formOf(c.Tag)
	w.number(uint64(c.Tag), tagSize)
	if f.text {
		w.number(uint64(len(c.S)), lenSize)
		w.b = append(w.b, c.S...)
	}
	if f.number != 0 {
		w.number(uint64(c.N), f.number)
	}
	if f.a != none {
		w.number(uint64(c.A), placeSize)
	}
	if f.b != none {
		w.number(uint64(c.B), placeSize)
	}
}
