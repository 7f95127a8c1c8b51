package hier

import (
	"carpetbag/desc"
)

// nullType is the type of no object.
const nullType = "N"

// isThere asks whether the class that a type names is there, if it names one.
func (w *World) isThere(t string) bool {
	for {
		item, ok := desc.Elem(t)
		if !ok {
			break
		}
		t = item
	}
	class, ok := desc.ClassOf(t)
	return !ok || w.Has(class)
}

// isOf asks whether both types are classes', and the first is the second.
func (w *World) isOf(from, to string) bool {
	class, ok := desc.ClassOf(from)
	of, okToo := desc.ClassOf(to)
	return ok && okToo && w.Is(class, of)
}

// items cuts the same dimensions off two types, as long as the first one's items are classes' or arrays': one goes for the other just if what is left does.
func items(from, to string) (string, string) {
	for {
		item, ok := desc.Elem(from)
		itemToo, okToo := desc.Elem(to)
		if !ok || !okToo || !desc.IsRef(item) {
			return from, to
		}
		from, to = item, itemToo
	}
}
