package asm

import (
	"carpetbag/api"
)

// faults keeps what is wrong first.
type faults struct{ first api.Errno }

// refuse keeps what is wrong, if nothing was ahead of it.
func (f *faults) refuse(e api.Errno) {
	if f.first == api.OK {
		f.first = e
	}
}

// ask refuses what may not be.
func (f *faults) ask(ok bool) {
	if !ok {
		f.refuse(api.ErrForm)
	}
}

// find is what is told of a place, and refuses one of which nothing is.
func (f *faults) find(told map[int]int, at int) int {
	v, ok := told[at]
	if !ok {
		f.refuse(api.ErrRange)
	}
	return v
}
