package verify

import (
	"slices"

	"carpetbag/api"
	"carpetbag/desc"
	"carpetbag/hier"
	"carpetbag/types"
)

// The types that operations take and push, whatever is named beside them.
const (
	intType   = "I"
	longType  = "J"
	nullType  = "N"
	bytesType = "[B"
	intsType  = "[I"
	noType    = "V" // what a method answers that answers nothing
)

// What is taken of more than one type.
const (
	anyRef  = "A"
	anyItem = "1" // whatever has one place
)

// step is how far an instruction was done: its methods go on with it, or answer the zero step, from which nothing goes on.
type step struct {
	w     *hier.World
	m     api.Method
	frame api.Frame
	took  []string // what was taken or loaded last, the top last
	ok    bool
}

// begin is a step of which nothing was done yet; its frame is new, since it may stay as it is.
func begin(w *hier.World, m api.Method, f api.Frame) step {
	f = api.Frame{Locals: slices.Clone(f.Locals), Stack: slices.Clone(f.Stack)}
	return step{w: w, m: m, frame: f, ok: true}
}

// need goes on just if something is so.
func (s step) need(ok bool) step {
	if !ok {
		return step{}
	}
	return s
}

// take takes types from the stack, the last one from its top.
func (s step) take(wanted ...string) step {
	s.took = slices.Clone(wanted)
	for i, t := range slices.Backward(wanted) {
		f, told, ok := types.Pop(s.w, s.frame, t)
		if !ok {
			return step{}
		}
		s.frame, s.took[i] = f, told
	}
	return s
}

// push lays types on the stack, the last one on its top.
func (s step) push(l ...string) step {
	for _, t := range l {
		f, ok := types.Push(s.frame, t, s.m.Stack)
		if !ok {
			return step{}
		}
		s.frame = f
	}
	return s
}

// again pushes what was taken or loaded, by its places.
func (s step) again(places ...int) step {
	for _, i := range places {
		if !s.ok {
			return step{}
		}
		s = s.push(s.took[i])
	}
	return s
}

// load asks for a type in the local n.
func (s step) load(n int64, t string) step {
	if !s.hasLocal(n) {
		return step{}
	}
	told, ok := types.Load(s.w, s.frame, int(n), t)
	s.took = []string{told}
	return s.need(ok)
}

// store puts what was taken into the local n.
func (s step) store(n int64) step {
	if !s.hasLocal(n) {
		return step{}
	}
	f, ok := types.Store(s.frame, int(n), s.took[0])
	s.frame = f
	return s.need(ok)
}

// hasLocal asks whether there is a local n, ahead of making it an int.
func (s step) hasLocal(n int64) bool {
	return 0 <= n && n < int64(len(s.frame.Locals))
}

// item has what stands in the row that was taken lowest, if these are classes' or arrays'.
func (s step) item() step {
	if !s.ok || s.took[0] == nullType {
		return s
	}
	t, _ := desc.Elem(s.took[0])
	s.took = []string{t}
	return s.need(desc.IsRef(t))
}

// isRow asks whether what was taken is an array, or null.
func (s step) isRow() step {
	if !s.ok || s.took[0] == nullType {
		return s
	}
	_, ok := desc.Elem(s.took[0])
	return s.need(ok)
}
