package desc

import (
	"strings"

	"carpetbag/api"
)

// cutArgs cuts off the types with which a text begins, one by one, as many as a method may have.
func cutArgs(s string) (args []string, behind string) {
	for len(args) < api.MaxArgs {
		t, rest := cut(s)
		if t == "" {
			break
		}
		args = append(args, t)
		s = rest
	}
	return args, s
}

// cut cuts off the type with which a text begins: an empty one, if it begins with none.
func cut(s string) (t, behind string) {
	item := strings.TrimLeft(s, array)
	dims := len(s) - len(item)
	n := itemSize(item, dims > 0)
	if n == 0 || dims > api.MaxDims {
		return "", s
	}
	return s[:dims+n], s[dims+n:]
}

// itemSize is how many bytes the type that is no array has with which a text begins: 0, if it begins with none. An array's items are not of the same types as what stands alone.
func itemSize(s string, inArray bool) int {
	switch {
	case strings.HasPrefix(s, intType):
		return len(intType)
	case strings.HasPrefix(s, longType) && !inArray:
		return len(longType)
	case strings.HasPrefix(s, byteItem) && inArray:
		return len(byteItem)
	case strings.HasPrefix(s, object):
		return objectSize(s)
	}
	return 0
}

// objectSize is how many bytes the class's type has with which a text begins: 0, if it begins with none.
func objectSize(s string) int {
	end := strings.Index(s, objectEnd)
	if end < 0 {
		return 0
	}
	t := s[:end+len(objectEnd)]
	class, ok := ClassOf(t)
	if !ok || !IsClass(class) {
		return 0
	}
	return len(t)
}
