package flow

import (
	"carpetbag/api"
	"carpetbag/ops"
)

// number is what tells a place: an instruction's is of 64 bits, any other an int.
type number interface{ int | int64 }

// isPlace asks whether a row of n has a place.
func isPlace[N number](at N, n int) bool {
	return 0 <= at && at < N(n)
}

// isBranch asks whether an operation's N is where it goes.
func isBranch(op byte) bool {
	return ops.Form(op) == api.FormBranch
}
