package types

import (
	"slices"

	"carpetbag/desc"
	"carpetbag/hier"
)

// The types of places that name no class.
const (
	topType  = "T" // anything
	longType = "J" // a long's first place
	halfType = "-" // a long's second place
	nullType = "N"
)

// What is asked of places beside their types.
const (
	anyRef  = "A"
	anyItem = "1" // whatever has one place
)

// placesOf are the places that a type has.
func placesOf(t string) []string {
	if t == longType {
		return []string{longType, halfType}
	}
	return []string{t}
}

// isThere asks whether a list has n places from at on.
func isThere(l []string, at, n int) bool {
	return 0 <= at && at <= len(l)-n
}

// find is what stands in a list at at, if it goes for t with all of its places.
func find(w *hier.World, l []string, at int, t string) (string, bool) {
	wanted := placesOf(t)
	if !isThere(l, at, len(wanted)) {
		return "", false
	}
	found := l[at : at+len(wanted)]
	if !fits(w, found[0], t) || !slices.Equal(found[1:], wanted[1:]) {
		return "", false
	}
	return found[0], true
}

// fits asks whether what stands at a first place goes for t.
func fits(w *hier.World, found, t string) bool {
	if found == topType || found == halfType {
		return false
	}
	switch t {
	case anyRef:
		return found == nullType || desc.IsRef(found)
	case anyItem:
		return found != longType
	}
	return Place(w, found, t)
}

// part takes n places from at on out of a list of locals: of a long of which just one half stands there, nothing is left of the other half.
func part(l []string, at, n int) {
	behind := at + n
	if l[behind-1] == longType && behind < len(l) {
		l[behind] = topType
	}
	if l[at] == halfType && at > 0 {
		l[at-1] = topType
	}
}
