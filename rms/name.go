package rms

import (
	"strings"

	"carpetbag/api"
	"carpetbag/blob"
)

// IsName asks whether a text is a name.
func IsName(s string) bool {
	if len(s) < 1 || len(s) > api.MaxName {
		return false
	}
	for _, sign := range []byte(s) {
		if !isSign(sign) {
			return false
		}
	}
	return true
}

// isSign asks whether a name may have a sign.
func isSign(b byte) bool {
	return 'a' <= b && b <= 'z' || '0' <= b && b <= '9' || b == '_' || b == '-'
}

// Key is a store's key.
func Key(suite, name string) string { return "r/" + suite + "/" + name }

// Names are the names of a suite's stores.
func Names(s *blob.Store, suite string) []string {
	if !IsName(suite) {
		return nil
	}
	var names []string
	prefix := Key(suite, "")
	for _, key := range s.Keys(prefix) {
		// A key that was put by others may go on with what is no name.
		if name := strings.TrimPrefix(key, prefix); IsName(name) {
			names = append(names, name)
		}
	}
	return names
}
