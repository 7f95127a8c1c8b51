package hier

import (
	"slices"

	"carpetbag/api"
	"carpetbag/asm"
	"carpetbag/desc"
)

// worldOf has all that units tell, whether they go together or not.
func worldOf(l []api.Unit) *World {
	w := &World{classes: map[string]class{}, fields: map[member]api.Member{}, methods: map[member]api.Member{}}
	for _, u := range l {
		w.classes[u.Name] = class{u.Super}
		for _, f := range u.Fields {
			w.fields[member{u.Name, f.Name, f.Desc}] = api.Member{Class: u.Name, Static: f.Static}
		}
		for _, m := range u.Methods {
			w.methods[member{u.Name, m.Name, m.Desc}] = api.Member{Class: u.Name, Static: m.Static}
		}
	}
	return w
}

// mayBe asks of a unit of which w was made, among others, all that it has to meet but that its name is its own.
func (w *World) mayBe(u api.Unit) bool {
	return desc.IsClass(u.Name) && w.isLaid(u) &&
		areOwn(u.Fields, func(f api.Field) string { return f.Name }) &&
		areOwn(u.Methods, func(m api.Method) member { return member{"", m.Name, m.Desc} }) &&
		areAll(u.Fields, w.fieldMayBe) &&
		areAll(u.Methods, func(m api.Method) bool { return w.methodMayBe(m) && w.followsOn(u.Super, m) })
}

// isLaid asks whether a unit's superclass is one that it may have.
func (w *World) isLaid(u api.Unit) bool {
	return w.Has(u.Super) && u.Super != sys && !w.Is(u.Super, u.Name)
}

// fieldMayBe asks whether a field's name and type may be.
func (w *World) fieldMayBe(f api.Field) bool {
	return asm.IsName(f.Name) && desc.IsType(f.Desc) && w.isThere(f.Desc)
}

// methodMayBe asks whether a method's name and types, and what its traps name, may be.
func (w *World) methodMayBe(m api.Method) bool {
	args, ret, e := desc.Method(m.Desc)
	return asm.IsName(m.Name) && e == api.OK && areAll(args, w.isThere) && w.isThere(ret) &&
		areAll(m.Traps, func(t api.Trap) bool { return t.Class == "" || w.Has(t.Class) })
}

// followsOn asks whether a method is static just if that of the superclass is, should there be one.
func (w *World) followsOn(super string, m api.Method) bool {
	above, ok := w.Method(super, m.Name, m.Desc)
	return !ok || above.Static == m.Static
}

// areAll asks whether each item of a list is so.
func areAll[T any](l []T, is func(T) bool) bool {
	return !slices.ContainsFunc(l, func(x T) bool { return !is(x) })
}

// areOwn asks whether no two items of a list have one key.
func areOwn[T any, K comparable](l []T, key func(T) K) bool {
	seen := map[K]struct{}{}
	for _, x := range l {
		seen[key(x)] = struct{}{}
	}
	return len(seen) == len(l)
}
