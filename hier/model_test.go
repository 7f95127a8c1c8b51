package hier_test

import (
	"regexp"
	"slices"
	"strings"

	"carpetbag/api"
)

// What the chapters' words tell of names and types, as regular expressions.
var (
	classForm  = regexp.MustCompile(`\A[A-Za-z0-9_$]+(/[A-Za-z0-9_$]+)*\z`)
	nameForm   = regexp.MustCompile(`\A[A-Za-z0-9_$]{1,64}\z`)
	plainForm  = regexp.MustCompile(`\A([IJ]|\[{1,8}[IB])\z`)
	objectForm = regexp.MustCompile(`\A\[{0,8}L([^;]*);\z`)
	namingForm = regexp.MustCompile(`(?s)\A\[*L(.*);\z`)
	rowForm    = regexp.MustCompile(`\A(\[*([IJB]|L[^;]*;))*\z`)
	itemForm   = regexp.MustCompile(`\[*([IJB]|L[^;]*;)`)
)

func modelClass(s string) bool { return len(s) <= 64 && classForm.MatchString(s) }

func modelType(s string) bool {
	if m := objectForm.FindStringSubmatch(s); m != nil {
		return modelClass(m[1])
	}
	return plainForm.MatchString(s)
}

// modelTypes are the types of a method, what it answers last: none, if there is no such method.
func modelTypes(d string) []string {
	end := strings.LastIndexByte(d, ')')
	if end < 1 || d[0] != '(' || !rowForm.MatchString(d[1:end]) {
		return nil
	}
	l := itemForm.FindAllString(d[1:end], -1)
	if len(l) > 16 {
		return nil
	}
	l = append(l, d[end+1:])
	for i, t := range l {
		if !modelType(t) && (i < len(l)-1 || t != "V") {
			return nil
		}
	}
	return l
}

// native is one of sys' methods.
type native struct{ name, desc string }

// nativeMethods are written out as the chapter does.
var nativeMethods = []native{
	{"print", "(I)V"}, {"printLong", "(J)V"}, {"printText", "([B)V"}, {"add", "([B)I"}, {"get", "(I)[B"}, {"set", "(I[B)V"}, {"del", "(I)V"}, {"count", "()I"},
}

// builtIns are the built-in classes, and their superclasses.
var builtIns = [][2]string{
	{"Object", ""}, {"Throwable", "Object"}, {"sys", "Object"},
	{"NullFault", "Throwable"}, {"BoundsFault", "Throwable"}, {"MathFault", "Throwable"}, {"CastFault", "Throwable"}, {"SizeFault", "Throwable"}, {"StoreFault", "Throwable"},
}

// model is a world's classes by their names.
type model map[string]api.Unit

// modelOf has all classes of which one has the name, the last of them.
func modelOf(l []api.Unit) model {
	m := model{}
	for _, x := range builtIns {
		m[x[0]] = api.Unit{Name: x[0], Super: x[1]}
	}
	s := m["sys"]
	for _, x := range nativeMethods {
		s.Methods = append(s.Methods, api.Method{Static: true, Name: x.name, Desc: x.desc})
	}
	m["sys"] = s
	for _, u := range l {
		m[u.Name] = u
	}
	return m
}

// line is a class, its superclass, so on; nothing, if one isn't there, or it goes round.
func (m model) line(class string) []string {
	var l []string
	for class != "" || len(l) == 0 {
		u, ok := m[class]
		if !ok || len(l) > len(m) {
			return nil
		}
		l = append(l, class)
		class = u.Super
	}
	return l
}

func (m model) is(class, of string) bool {
	for _, c := range m.line(class) {
		if c == of {
			return true
		}
	}
	return false
}

// there asks whether what a type names is there.
func (m model) there(t string) bool {
	named := namingForm.FindStringSubmatch(t)
	if named == nil {
		return true
	}
	_, ok := m[named[1]]
	return ok
}

func (m model) goes(from, to string) bool {
	if !m.there(from) || !m.there(to) {
		return false
	}
	switch {
	case from == to:
		return true
	case from == "":
		return false
	case from == "N":
		return to != "" && strings.ContainsRune("L[", rune(to[0]))
	case from[0] == '[' && to == "LObject;":
		return true
	case from[0] == '[' && strings.HasPrefix(to, "["):
		item := from[1:]
		return item != "" && strings.ContainsRune("L[", rune(item[0])) && m.goes(item, to[1:])
	case from[0] == 'L' && strings.HasPrefix(to, "L"):
		a, b := namingForm.FindStringSubmatch(from), namingForm.FindStringSubmatch(to)
		return a != nil && b != nil && m.is(a[1], b[1])
	}
	return false
}

func (m model) field(class, name, desc string) (api.Member, bool) {
	for _, c := range m.line(class) {
		for _, f := range m[c].Fields {
			if f.Name == name && f.Desc == desc {
				return api.Member{Class: c, Static: f.Static}, true
			}
		}
	}
	return api.Member{}, false
}

func (m model) method(class, name, desc string) (api.Member, bool) {
	for _, c := range m.line(class) {
		for _, x := range m[c].Methods {
			if x.Name == name && x.Desc == desc {
				return api.Member{Class: c, Static: x.Static}, true
			}
		}
	}
	return api.Member{}, false
}

func (m model) native(class, name, desc string) bool {
	_, there := m[class]
	return there && class == "sys" && slices.Contains(nativeMethods, native{name, desc})
}

func (m model) common(a, b string) string {
	for _, c := range m.line(a) {
		if m.is(b, c) {
			return c
		}
	}
	return ""
}

// together asks whether units go together.
func together(l []api.Unit) bool {
	m := modelOf(l)
	if len(l) > 32 || len(m) != len(builtIns)+len(l) {
		return false
	}
	for _, u := range l {
		if !modelClass(u.Name) || m.line(u.Name) == nil || u.Super == "" || u.Super == "sys" {
			return false
		}
		for i, f := range u.Fields {
			if !m.fieldMayBe(f) {
				return false
			}
			for _, g := range u.Fields[:i] {
				if f.Name == g.Name {
					return false
				}
			}
		}
		for i, x := range u.Methods {
			if !m.methodMayBe(x) {
				return false
			}
			for _, y := range u.Methods[:i] {
				if x.Name == y.Name && x.Desc == y.Desc {
					return false
				}
			}
			for _, c := range m.line(u.Name) {
				for _, y := range m[c].Methods {
					if x.Name == y.Name && x.Desc == y.Desc && x.Static != y.Static {
						return false
					}
				}
			}
		}
	}
	return true
}

func (m model) fieldMayBe(f api.Field) bool {
	return nameForm.MatchString(f.Name) && modelType(f.Desc) && m.there(f.Desc)
}

func (m model) methodMayBe(x api.Method) bool {
	l := modelTypes(x.Desc)
	if !nameForm.MatchString(x.Name) || l == nil {
		return false
	}
	for _, t := range l {
		if !m.there(t) {
			return false
		}
	}
	for _, t := range x.Traps {
		if _, ok := m[t.Class]; !ok && t.Class != "" {
			return false
		}
	}
	return true
}
