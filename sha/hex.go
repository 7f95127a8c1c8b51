package sha

import (
	"strings"

	"carpetbag/api"
)

// digits are the signs of half bytes.
const digits = "0123456789abcdef"

// hexSize is how many signs a hash has.
const hexSize = 2 * sumSize

// Hex is a hash's signs.
func Hex(sum [sumSize]byte) string {
	b := make([]byte, 0, hexSize)
	for _, x := range sum {
		b = append(b, digits[x>>4], digits[x&0xf])
	}
	return string(b)
}

// Unhex is the hash of signs.
func Unhex(s string) ([sumSize]byte, api.Errno) {
	if len(s) != hexSize {
		return [sumSize]byte{}, api.ErrForm
	}
	var sum [sumSize]byte
	for i := range hexSize {
		half := strings.IndexByte(digits, s[i])
		if half < 0 {
			return [sumSize]byte{}, api.ErrForm
		}
		sum[i/2] = sum[i/2]<<4 | byte(half)
	}
	return sum, api.OK
}
