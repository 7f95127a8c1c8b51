package utf

// The greatest units of one byte and of two.
const (
	maxOne = 127
	maxTwo = 2047
)

// A unit's first byte begins with a mark that tells how many bytes it has; those that go on have a mark of their own.
const (
	markTwo   = 0xc0
	markThree = 0xe0
	markMore  = 0x80
)

// The bits of a unit that stand behind a mark.
const (
	bitsTwo   = 5
	bitsThree = 4
	bitsMore  = 6
)

// size is how many bytes a unit has.
func size(u uint16) int {
	if 1 <= u && u <= maxOne {
		return 1
	}
	if u <= maxTwo {
		return 2
	}
	return 3
}

// add writes a unit behind b, which nobody else has.
func add(b []byte, u uint16) []byte {
	switch size(u) {
	case 1:
		return append(b, byte(u))
	case 2:
		return append(b, markTwo|byte(u>>bitsMore), more(u))
	}
	return append(b, markThree|byte(u>>(2*bitsMore)), more(u>>bitsMore), more(u))
}

// more is the byte that goes on with the lowest bits of a number.
func more(u uint16) byte { return markMore | low(byte(u), bitsMore) }

// unit is the unit with which bytes, one at least, begin, and how many of them are its own: none, if they begin with no unit.
func unit(b []byte) (uint16, int) {
	n, u := first(b[0])
	if n == 0 || n > len(b) {
		return 0, 0
	}
	for _, x := range b[1:n] {
		if !marked(x, markMore, bitsMore) {
			return 0, 0
		}
		u = u<<bitsMore | uint16(low(x, bitsMore))
	}
	// A unit may be told in no more bytes, and in no fewer, than it has.
	if size(u) != n {
		return 0, 0
	}
	return u, n
}

// first is how many bytes a unit has by its first one (0: no unit begins so), and the bits that stand there.
func first(x byte) (int, uint16) {
	switch {
	case x <= maxOne:
		return 1, uint16(x)
	case marked(x, markTwo, bitsTwo):
		return 2, uint16(low(x, bitsTwo))
	case marked(x, markThree, bitsThree):
		return 3, uint16(low(x, bitsThree))
	}
	return 0, 0
}

// marked asks whether a byte is a mark, but for so many of its lowest bits.
func marked(x, mark byte, bits int) bool { return x>>bits == mark>>bits }

// low is so many of a byte's lowest bits.
func low(x byte, bits int) byte { return x & (1<<bits - 1) }
