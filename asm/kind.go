package asm

import (
	"carpetbag/api"
	"carpetbag/desc"
)

// partEnd stands between the parts of a class's name.
const partEnd = "/"

// What tells the kind of a constant that an instruction pushes.
const (
	intDesc    = "I"
	longDesc   = "J"
	stringDesc = "S"
)

// The types of a map that name no class.
const (
	topType  = "T"
	intType  = "I"
	longType = "J"
	nullType = "N"
)

// isArray asks whether a text is an array's type.
func isArray(s string) bool {
	_, ok := desc.Elem(s)
	return ok && desc.IsType(s)
}

// isClassOrArray asks whether a text is a class's name, or an array's type.
func isClassOrArray(s string) bool { return desc.IsClass(s) || isArray(s) }

// isMethod asks whether a text is a method's description.
func isMethod(s string) bool {
	_, _, e := desc.Method(s)
	return e == api.OK
}
