package jad

import (
	"cmp"
	"strconv"
	"strings"

	"carpetbag/api"
)

// maxPart is the greatest part of a version.
const maxPart = 99

// partEnd stands between the parts of a version.
const partEnd = "."

// Cmp holds two versions against each other.
func Cmp(a, b api.Version) int {
	for i, part := range a {
		if way := cmp.Compare(part, b[i]); way != 0 {
			return way
		}
	}
	return 0
}

// ParseVersion reads a version.
func ParseVersion(s string) (api.Version, api.Errno) {
	var v api.Version
	// One part too many is enough to tell.
	parts := strings.SplitN(s, partEnd, len(v)+1)
	if len(parts) != len(v) {
		return api.Version{}, api.ErrForm
	}
	for i, part := range parts {
		n, e := number(part)
		if e != api.OK {
			return api.Version{}, e
		}
		v[i] = n
	}
	if !isVersion(v) {
		return api.Version{}, api.ErrForm
	}
	return v, api.OK
}

// PrintVersion is a version's text.
func PrintVersion(v api.Version) string {
	var parts []string
	for _, part := range v {
		parts = append(parts, strconv.Itoa(part))
	}
	return strings.Join(parts, partEnd)
}

// isVersion asks whether a descriptor may have a version.
func isVersion(v api.Version) bool {
	for _, part := range v {
		if part < 0 || part > maxPart {
			return false
		}
	}
	return true
}

// number is the number of which a text is the digits.
func number(s string) (int, api.Errno) {
	n, err := strconv.Atoi(s)
	// Atoi reads needless signs and zeros, too.
	if err != nil || strconv.Itoa(n) != s {
		return 0, api.ErrForm
	}
	return n, api.OK
}
