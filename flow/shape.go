package flow

import (
	"slices"

	"carpetbag/api"
	"carpetbag/desc"
	"carpetbag/ops"
)

// isFormed asks whether what a code has is right, wherever its branches, traps and maps stand.
func isFormed(m api.Method) bool {
	_, _, e := desc.Method(m.Desc)
	if e != api.OK || !isUpTo(m.Stack, api.MaxStack) || !isUpTo(m.Locals, api.MaxLocals) || !hasEnd(m.Code) {
		return false
	}
	wrong := func(x api.Ins) bool { return !isRight(x, m.Locals) }
	return !slices.ContainsFunc(m.Code, wrong)
}

// isUpTo asks whether there may be n of something, of which there are at most so many.
func isUpTo(n, most int) bool {
	return isPlace(n, most+1)
}

// hasEnd asks whether nothing goes on behind a code's last instruction.
func hasEnd(code []api.Ins) bool {
	return len(code) > 0 && Ends(code[len(code)-1].Op)
}

// isRight asks whether an instruction may be in a code with so many locals, wherever it branches.
func isRight(x api.Ins, locals int) bool {
	switch ops.Form(x.Op) {
	case 0:
		return false
	case api.FormLocal, api.FormInc:
		return isPlace(x.N, locals) && (!isLong(x.Op) || isPlace(x.N+1, locals))
	}
	return true
}

// isLong asks whether an operation's local has two places.
func isLong(op byte) bool {
	return op == api.OpLload || op == api.OpLstore
}

// isPlaced asks whether branches, traps and maps stand where they may.
func isPlaced(m api.Method) bool {
	n := len(m.Code)
	astray := func(x api.Ins) bool { return isBranch(x.Op) && !isPlace(x.N, n) }
	wrong := func(t api.Trap) bool { return t.From >= t.To || t.To > n || !isPlace(t.At, n) }
	return !slices.ContainsFunc(m.Code, astray) && !slices.ContainsFunc(m.Traps, wrong) && isRising(m.Maps, n)
}

// isRising asks whether maps stand one behind the other, in a row of n.
func isRising(l []api.Map, n int) bool {
	last := -1
	for _, x := range l {
		if x.At <= last || x.At >= n {
			return false
		}
		last = x.At
	}
	return true
}

// isMapped asks whether there are maps wherever a code isn't just gone through; all its places are right.
func isMapped(m api.Method) bool {
	has := make([]bool, len(m.Code)+1)
	has[len(m.Code)] = true // nothing stands there
	for _, x := range m.Maps {
		has[x.At] = true
	}
	for at, x := range m.Code {
		if isBranch(x.Op) && !has[x.N] || Ends(x.Op) && !has[at+1] {
			return false
		}
	}
	bare := func(t api.Trap) bool { return !has[t.At] }
	return !slices.ContainsFunc(m.Traps, bare)
}
