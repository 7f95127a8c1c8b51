package types

import (
	"slices"

	"carpetbag/api"
	"carpetbag/desc"
	"carpetbag/hier"
)

// mostLocals is how many texts, of 16 bytes each, 2^31 - 1 bytes hold: of more nothing is promised, and no memory may have room for them.
const mostLocals = (1<<31 - 1) / 16

// filled is a frame with n locals, nothing in those that it hasn't yet.
func filled(f api.Frame, n int) (api.Frame, api.Errno) {
	if len(f.Locals) > n || n > mostLocals {
		return api.Frame{}, api.ErrForm
	}
	free := slices.Repeat([]string{topType}, n-len(f.Locals))
	f.Locals = append(f.Locals, free...)
	return f, api.OK
}

// isOfMap asks whether a map may have a type: one that names a class goes for itself just if it is there.
func isOfMap(w *hier.World, t string) bool {
	return t == topType || t == nullType || desc.IsType(t) && w.Goes(t, t)
}
