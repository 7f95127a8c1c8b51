package asm

import (
	"slices"

	"carpetbag/api"
)

// each is what is made of each item of a list, in order.
func each[A, B any](l []A, made func(A) B) []B {
	var out []B
	for _, x := range l {
		out = append(out, made(x))
	}
	return out
}

// same asks whether two units are the same: an empty list may be nil.
func same(u, v api.Unit) bool {
	return u.Name == v.Name && u.Super == v.Super && slices.Equal(u.Fields, v.Fields) && slices.EqualFunc(u.Methods, v.Methods, sameMethod)
}

// sameMethod asks whether two methods are the same.
func sameMethod(m, n api.Method) bool {
	return m.Static == n.Static && m.Name == n.Name && m.Desc == n.Desc && m.Stack == n.Stack && m.Locals == n.Locals &&
		slices.Equal(m.Code, n.Code) && slices.Equal(m.Traps, n.Traps) && slices.EqualFunc(m.Maps, n.Maps, sameMap)
}

// sameMap asks whether two maps are the same.
func sameMap(m, n api.Map) bool {
	return m.At == n.At && slices.Equal(m.Locals, n.Locals) && slices.Equal(m.Stack, n.Stack)
}
