package jar

// maxName is how many bytes an item's name may have.
const maxName = 64

// names are those that were seen.
type names map[string]struct{}

// add has a name seen; false, if it was already.
func (n names) add(name string) bool {
	if _, there := n[name]; there {
		return false
	}
	n[name] = struct{}{}
	return true
}

// isName asks whether a text is an item's name.
func isName(s string) bool {
	if len(s) < 1 || len(s) > maxName {
		return false
	}
	for i := range len(s) {
		if !isSign(s[i]) {
			return false
		}
	}
	return true
}

// isSign asks whether a byte may stand in an item's name.
func isSign(x byte) bool {
	switch x {
	case '/', '_', '$', '.', '-':
		return true
	}
	return 'a' <= x && x <= 'z' || 'A' <= x && x <= 'Z' || '0' <= x && x <= '9'
}
