package sha

import (
	"math/bits"

	"carpetbag/num"
)

// rounds is how many words a block makes: each has a round of its own.
const rounds = 64

// words are the eight, a to h.
type words [8]uint32

// start are the words ahead of the first block.
var start = words{
	0x6a09e667, 0xbb67ae85, 0x3c6ef372, 0xa54ff53a,
	0x510e527f, 0x9b05688c, 0x1f83d9ab, 0x5be0cd19,
}

// roots are the first bits of the fractions of the cube roots of the first primes.
var roots = [rounds]uint32{
	0x428a2f98, 0x71374491, 0xb5c0fbcf, 0xe9b5dba5,
	0x3956c25b, 0x59f111f1, 0x923f82a4, 0xab1c5ed5,
	0xd807aa98, 0x12835b01, 0x243185be, 0x550c7dc3,
	0x72be5d74, 0x80deb1fe, 0x9bdc06a7, 0xc19bf174,
	0xe49b69c1, 0xefbe4786, 0x0fc19dc6, 0x240ca1cc,
	0x2de92c6f, 0x4a7484aa, 0x5cb0a9dc, 0x76f988da,
	0x983e5152, 0xa831c66d, 0xb00327c8, 0xbf597fc7,
	0xc6e00bf3, 0xd5a79147, 0x06ca6351, 0x14292967,
	0x27b70a85, 0x2e1b2138, 0x4d2c6dfc, 0x53380d13,
	0x650a7354, 0x766a0abb, 0x81c2c92e, 0x92722c85,
	0xa2bfe8a1, 0xa81a664b, 0xc24b8b70, 0xc76c51a3,
	0xd192e819, 0xd6990624, 0xf40e3585, 0x106aa070,
	0x19a4c116, 0x1e376c08, 0x2748774c, 0x34b0bcb5,
	0x391c0cb3, 0x4ed8aa4a, 0x5b9cca4f, 0x682e6ff3,
	0x748f82ee, 0x78a5636f, 0x84c87814, 0x8cc70208,
	0x90befffa, 0xa4506ceb, 0xbef9a3f7, 0xc67178f2,
}

// mix changes the words by a block.
func (w *words) mix(block [blockSize]byte) {
	turned := *w
	for t, x := range spread(block) {
		turned.round(roots[t] + x)
	}
	for i, x := range turned {
		w[i] += x
	}
}

// round moves the words on by one, by what the round adds.
func (w *words) round(added uint32) {
	a, b, c := w[0], w[1], w[2]
	e, f, g, h := w[4], w[5], w[6], w[7]
	t1 := h + turns(e, 6, 11, 25) + (e&f ^ ^e&g) + added
	t2 := turns(a, 2, 13, 22) + (a&b ^ a&c ^ b&c)
	copy(w[1:], w[:])
	w[4] += t1
	w[0] = t1 + t2
}

// sum is the hash that the words tell.
func (w words) sum() [sumSize]byte {
	var b []byte
	for _, x := range w {
		b = num.Put(b, uint64(x), wordSize)
	}
	return [sumSize]byte(b)
}

// spread are the words that a block makes.
func spread(block [blockSize]byte) [rounds]uint32 {
	var row [rounds]uint32
	for t := range row {
		if at := t * wordSize; at < blockSize {
			// A block has all the bytes of its words.
			x, _ := num.Get(block[:], at, wordSize)
			row[t] = uint32(x)
			continue
		}
		x, y := row[t-15], row[t-2]
		s0 := turn(x, 7) ^ turn(x, 18) ^ x>>3
		s1 := turn(y, 17) ^ turn(y, 19) ^ y>>10
		row[t] = s1 + row[t-7] + s0 + row[t-16]
	}
	return row
}

// turns are a word's turns to the right by three numbers, combined.
func turns(x uint32, first, second, third int) uint32 {
	return turn(x, first) ^ turn(x, second) ^ turn(x, third)
}

// turn turns a word to the right.
func turn(x uint32, by int) uint32 { return bits.RotateLeft32(x, -by) }
