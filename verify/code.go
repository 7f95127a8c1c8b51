package verify

import (
	"cmp"

	"carpetbag/api"
	"carpetbag/desc"
	"carpetbag/flow"
	"carpetbag/hier"
	"carpetbag/types"
)

// code is a method's code in shape, and what its maps tell.
type code struct {
	w    *hier.World
	m    api.Method
	maps map[int]api.Frame // by their places
}

// mapped is a method's code, if each of its maps may be.
func mapped(w *hier.World, m api.Method) (code, bool) {
	c := code{w, m, map[int]api.Frame{}}
	for _, x := range m.Maps {
		f, e := types.OfMap(w, m, x)
		if e != api.OK {
			return code{}, false
		}
		c.maps[x.At] = f
	}
	return c, true
}

// frames are those ahead of each instruction, of a code that begins with f.
func (c code) frames(f api.Frame) ([]api.Frame, api.Errno) {
	if !c.goes(f, 0) {
		return nil, api.ErrType
	}
	var l []api.Frame
	for at := range c.m.Code {
		// What comes here was held against the map, where it came from.
		if told, ok := c.maps[at]; ok {
			f = told
		}
		l = append(l, f)
		behind, ok := c.behind(at, f)
		if !ok {
			return nil, api.ErrType
		}
		f = behind
	}
	return l, api.OK
}

// behind is the frame behind the instruction at at, if f may stand ahead of it.
func (c code) behind(at int, f api.Frame) (api.Frame, bool) {
	for _, t := range c.m.Traps {
		if t.From <= at && at < t.To && !c.traps(t, f) {
			return api.Frame{}, false
		}
	}
	f, ok := Step(c.w, c.m, f, c.m.Code[at])
	return f, ok && c.goes(f, flow.Nexts(c.m, at)...)
}

// traps asks whether a trap may take over from a frame.
func (c code) traps(t api.Trap, f api.Frame) bool {
	class := cmp.Or(t.Class, throwable)
	f.Stack = []string{desc.Object(class)}
	return c.w.Is(class, throwable) && c.goes(f, t.At)
}

// goes asks whether a frame goes for what the maps at places tell, as far as there are any.
func (c code) goes(f api.Frame, places ...int) bool {
	for _, at := range places {
		told, ok := c.maps[at]
		if ok && !types.Goes(c.w, f, told) {
			return false
		}
	}
	return true
}
