package verify

import "carpetbag/desc"

// throwable is the class of all that is thrown.
const throwable = "Throwable"

// textDesc is what tells OpLdc to push a text.
const textDesc = "S"

// The kinds of arrays that OpNewarray makes.
const (
	bytesKind = 8
	intsKind  = 10
)

// constantType is the type of what OpLdc pushes.
func constantType(d string) string {
	if d == textDesc {
		return bytesType
	}
	return intType
}

// classType is the type that a class, or an array, has by its name.
func classType(class string) string {
	if _, ok := desc.Elem(class); ok {
		return class
	}
	return desc.Object(class)
}

// rowOf is the type of an array of a type.
func rowOf(t string) string { return "[" + t }
