package desc

// maxClass is the bytes of the longest class's name.
const maxClass = 64

// partEnd stands between the parts of a class's name.
const partEnd = "/"

// isPart asks whether a text is a part of a class's name.
func isPart(s string) bool {
	for i := range len(s) {
		if !isSign(s[i]) {
			return false
		}
	}
	return s != ""
}

// isSign asks whether a byte may stand in a part.
func isSign(x byte) bool {
	return 'a' <= x && x <= 'z' || 'A' <= x && x <= 'Z' || '0' <= x && x <= '9' || x == '_' || x == '$'
}
