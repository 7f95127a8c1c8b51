package asm

import (
	"carpetbag/api"
	"carpetbag/ops"
)

// places tells of places in a code those in its row, or the other way round.
type places struct {
	starts map[int]int // of instructions
	stops  map[int]int // of instructions, and of the end
}

// newPlaces tells of the end alone.
func newPlaces(end, told int) places {
	return places{starts: map[int]int{}, stops: map[int]int{end: told}}
}

// put has an instruction's place told.
func (p places) put(at, told int) {
	p.starts[at] = told
	p.stops[at] = told
}

// rowPlaces tells of a code's places those of its row.
func rowPlaces(l []api.Raw, size int) places {
	p := newPlaces(size, len(l))
	for i, r := range l {
		p.put(r.At, i)
	}
	return p
}

// codePlaces tells of a row's places those of its code.
func codePlaces(l []api.Ins) places {
	size := 0
	for _, x := range l {
		size += ops.Len(x.Op)
	}
	p := newPlaces(len(l), size)
	at := 0
	for i, x := range l {
		p.put(i, at)
		at += ops.Len(x.Op)
	}
	return p
}
