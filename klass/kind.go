package klass

import (
	"carpetbag/api"
	"carpetbag/pool"
)

// consts are the constants of a pool that may be.
type consts []api.Const

// isText asks whether a TagText stands at a place.
func (c consts) isText(at int) bool {
	_, ok := pool.Text(c, at)
	return ok
}

// isClass asks whether a TagClass stands at a place.
func (c consts) isClass(at int) bool {
	_, ok := pool.Class(c, at)
	return ok
}

// isClassOrNone asks whether a TagClass stands at a place, or none is told.
func (c consts) isClassOrNone(at int) bool { return at == 0 || c.isClass(at) }

// first is the first place where a text stands.
func (c consts) first(text string) (int, bool) {
	for at := range c {
		if s, ok := pool.Text(c, at); ok && s == text {
			return at, true
		}
	}
	return 0, false
}

// isFlags asks whether a member may have flags.
func isFlags(v int) bool { return v == 0 || v == api.FlagStatic }

// isMapTag asks whether a Tag is one of maps.
func isMapTag(tag int) bool {
	switch tag {
	case api.MapTop, api.MapInt, api.MapLong, api.MapNull, api.MapObj:
		return true
	}
	return false
}
