package flow

import (
	"slices"

	"carpetbag/api"
)

// walk is how far a code was gone through.
type walk struct {
	reached []bool
	work    []int      // places that were come to, and from which nothing was gone on yet
	traps   []api.Trap // those within which none of the places stands that were gone on from
}

// come notes that a place can be come to, if it is an instruction's.
func (w *walk) come(at int) {
	if isPlace(at, len(w.reached)) && !w.reached[at] {
		w.reached[at] = true
		w.work = append(w.work, at)
	}
}

// take is a place to go on from.
func (w *walk) take() int {
	last := len(w.work) - 1
	at := w.work[last]
	w.work = w.work[:last]
	return at
}

// trap comes to where the traps lead within which a place stands: each leads nowhere else from another place.
func (w *walk) trap(at int) {
	w.traps = slices.DeleteFunc(w.traps, func(t api.Trap) bool {
		within := t.From <= at && at < t.To
		if within {
			w.come(t.At)
		}
		return within
	})
}
