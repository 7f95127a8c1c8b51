package hier

import (
	"iter"

	"carpetbag/api"
)

// line goes from a class that is there to its superclass, so on.
func (w *World) line(class string) iter.Seq[string] {
	return func(yield func(string) bool) {
		if w == nil {
			return
		}
		// While it isn't known yet whether units go together, a line may come back to where it began: no line has more classes than there are.
		c := class
		for range len(w.classes) {
			super, ok := w.Super(c)
			if !ok || !yield(c) {
				return
			}
			c = super
		}
	}
}

// first is where a member stands that the class has, its superclass, so on.
func (w *World) first(members map[member]api.Member, m member) (api.Member, bool) {
	for c := range w.line(m.class) {
		m.class = c
		if found, ok := members[m]; ok {
			return found, true
		}
	}
	return api.Member{}, false
}
