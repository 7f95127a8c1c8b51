package pool

import (
	"carpetbag/api"
	"carpetbag/utf"
)

// maxText is the bytes of the longest text.
const maxText = 65535

// isCount asks whether a pool may have so many places.
func isCount(n int) bool { return 1 <= n && n <= api.MaxPool }

// mayStand asks whether what stands at a place of a pool may stand there, if all ahead of it may.
func mayStand(l []api.Const, at int) bool {
	c := l[at]
	if at == 0 || l[at-1].Tag == api.TagLong {
		return c == api.Const{}
	}
	f := formOf(c.Tag)
	if f == (form{}) || c != f.part(c) {
		return false
	}
	// What the form hasn't is 0 or empty by now, which each of these takes for right.
	return isText(c.S) && tagAt(l, c.A) == f.a && tagAt(l, c.B) == f.b
}

// isText asks whether a text's bytes may stand in a pool.
func isText(s string) bool {
	if len(s) > maxText {
		return false
	}
	_, e := utf.Len([]byte(s))
	return e == api.OK
}

// isPlace asks whether something may be found at a place.
func isPlace(l []api.Const, at int) bool { return 1 <= at && at < len(l) }

// tagAt is the Tag at a place.
func tagAt(l []api.Const, at int) int {
	if !isPlace(l, at) {
		return none
	}
	return l[at].Tag
}

// find is the constant of a Tag at a place.
func find(l []api.Const, at, tag int) (api.Const, bool) {
	if !isPlace(l, at) || l[at].Tag != tag {
		return api.Const{}, false
	}
	return l[at], true
}
