package klass

import (
	"carpetbag/api"
	"carpetbag/num"
	"carpetbag/pool"
)

// writer writes a class's parts, one behind the other.
type writer struct {
	faults
	b []byte
}

// number writes a number of some bytes.
func (w *writer) number(v *int, size int) {
	// Put copies what it goes on with, which is much behind long codes.
	w.b = append(w.b, num.Put(nil, uint64(*v), size)...)
}

// bytes writes bytes; they know how many they are.
func (w *writer) bytes(b *[]byte, _ int) { w.b = append(w.b, *b...) }

// pool writes a pool.
func (w *writer) pool(l *[]api.Const) {
	b, e := pool.Bytes(*l)
	w.refuse(e)
	w.b = append(w.b, b...)
}

// block has the steps write to a writer of their own, since it tells the length that stands ahead.
func (w *writer) block(steps func(pass)) {
	var own writer
	steps(&own)
	w.refuse(own.first)
	n := len(own.b)
	w.number(&n, lengthSize)
	w.bytes(&own.b, n)
}
