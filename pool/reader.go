package pool

import (
	"carpetbag/api"
	"carpetbag/num"
)

// reader reads a pool's bytes from place to place, until something is wrong.
type reader struct {
	b     []byte
	at    int
	fault api.Errno // the first one: behind it nothing more is read
}

// refuse keeps what is wrong, if nothing was ahead of it.
func (r *reader) refuse(e api.Errno) {
	if r.fault == api.OK {
		r.fault = e
	}
}

// number is the number of n bytes that stands next.
func (r *reader) number(n int) uint64 {
	v, e := num.Get(r.b, r.at, n)
	r.refuse(e)
	if r.fault != api.OK {
		return 0
	}
	r.at += n
	return v
}

// text is the text that stands next, behind its length.
func (r *reader) text() string {
	n := int(r.number(lenSize))
	if n > len(r.b)-r.at {
		r.refuse(api.ErrShort)
	}
	if r.fault != api.OK {
		return ""
	}
	from := r.at
	r.at += n
	return string(r.b[from:r.at])
}

// constant is the one that stands next, with its Tag.
func (r *reader) constant() api.Const {
	c := api.Const{Tag: int(r.number(tagSize))}
	f := formOf(c.Tag)
	if f == (form{}) {
		r.refuse(api.ErrForm)
	}
	if f.text {
		c.S = r.text()
	}
	if f.number != 0 {
		c.N = num.Sign(r.number(f.number), f.number)
	}
	if f.a != none {
		c.A = int(r.number(placeSize))
	}
	if f.b != none {
		c.B = int(r.number(placeSize))
	}
	return c
}

// places are a pool's, behind how many they are.
func (r *reader) places() []api.Const {
	n := int(r.number(countSize))
	if !isCount(n) {
		r.refuse(api.ErrForm)
	}
	l := []api.Const{{}}
	for r.fault == api.OK && len(l) < n {
		c := r.constant()
		l = append(l, c)
		if c.Tag == api.TagLong {
			l = append(l, api.Const{})
		}
	}
	if len(l) > n {
		r.refuse(api.ErrForm)
	}
	return l
}
