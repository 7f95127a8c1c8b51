package klass

import (
	"carpetbag/api"
	"carpetbag/num"
	"carpetbag/pool"
)

// reader reads a class's parts from place to place, until something is wrong.
type reader struct {
	faults
	b  []byte
	at int
}

// number reads a number of some bytes.
func (r *reader) number(v *int, size int) {
	told, e := num.Get(r.b, r.at, size)
	r.refuse(e)
	if !r.goesOn() {
		return
	}
	*v = int(told)
	r.at += size
}

// bytes reads n bytes.
func (r *reader) bytes(b *[]byte, n int) {
	if n > len(r.b)-r.at {
		r.refuse(api.ErrShort)
	}
	if !r.goesOn() {
		return
	}
	from := r.at
	r.at += n
	*b = append([]byte(nil), r.b[from:r.at]...)
}

// pool reads a pool.
func (r *reader) pool(l *[]api.Const) {
	told, n, e := pool.Parse(r.b[r.at:])
	r.refuse(e)
	if !r.goesOn() {
		return
	}
	*l = told
	r.at += n
}

// block asks whether the steps read as many bytes as the length ahead tells.
func (r *reader) block(steps func(pass)) {
	var n int
	r.number(&n, lengthSize)
	from := r.at
	steps(r)
	r.ask(r.at-from == n)
}
