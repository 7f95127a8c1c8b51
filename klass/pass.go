package klass

import (
	"carpetbag/api"
)

// How many bytes the parts of a class have.
const (
	numberSize = 2
	lengthSize = 4
	tagSize    = 1
)

// pass goes over a class's bytes, part by part: a writer takes what it is shown and changes none of it, a reader shows what it has read. What is asked is asked of both.
type pass interface {
	number(v *int, size int)
	bytes(b *[]byte, n int)
	pool(l *[]api.Const)
	block(steps func(pass)) // what the steps go over, behind how many bytes it has
	ask(ok bool)
	goesOn() bool
}

// faults keeps what is wrong first.
type faults struct{ first api.Errno }

// refuse keeps what is wrong, if nothing was ahead of it.
func (f *faults) refuse(e api.Errno) {
	if f.first == api.OK {
		f.first = e
	}
}

// ask refuses what may not be.
func (f *faults) ask(ok bool) {
	if !ok {
		f.refuse(api.ErrForm)
	}
}

// goesOn asks whether nothing was wrong so far.
func (f *faults) goesOn() bool { return f.first == api.OK }

// number goes over a number that has to be of a kind.
func number(p pass, v *int, is func(int) bool) {
	p.number(v, numberSize)
	p.ask(is(*v))
}

// upTo is the kind of the numbers from 0 to the most.
func upTo(most int) func(int) bool {
	return func(v int) bool { return 0 <= v && v <= most }
}

// always goes over a number that is the same in each class.
func always(p pass, v int) {
	told := v
	number(p, &told, func(told int) bool { return told == v })
}

// row goes over a list, behind how many items it has.
func row[T any](p pass, l *[]T, most int, item func(pass, *T)) {
	n := len(*l)
	number(p, &n, upTo(most))
	if !p.goesOn() {
		return
	}
	// A reader's list has none yet.
	for len(*l) < n {
		var blank T
		*l = append(*l, blank)
	}
	for i := range *l {
		item(p, &(*l)[i])
	}
}
