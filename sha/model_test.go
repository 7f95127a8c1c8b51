package sha_test

import "math/big"

// A model as the chapter's words go: each word stands in a number of 64 bits.

const word = 1 << 32

func modelTurn(x uint64, by int) uint64 { return (x>>by | x<<(32-by)) % word }

// modelK are the first 32 bits of the fractions of the cube roots of the first 64 primes.
func modelK() []uint64 {
	var l []uint64
	for p := int64(2); len(l) < 64; p++ {
		if !big.NewInt(p).ProbablyPrime(20) {
			continue
		}
		// The cube root of p * 2^96, rounded down, is that of p, its fraction's first 32 bits behind.
		cube := new(big.Int).Lsh(big.NewInt(p), 96)
		low, high := big.NewInt(0), new(big.Int).Lsh(big.NewInt(1), 40)
		for {
			mid := new(big.Int).Rsh(new(big.Int).Add(low, high), 1)
			if mid.Cmp(low) == 0 {
				break
			}
			if new(big.Int).Exp(mid, big.NewInt(3), nil).Cmp(cube) <= 0 {
				low = mid
			} else {
				high = mid
			}
		}
		l = append(l, low.Uint64()%word)
	}
	return l
}

func modelSum(b []byte) [32]byte {
	all := append(append([]byte(nil), b...), 128)
	for len(all)%64 != 56 {
		all = append(all, 0)
	}
	for i := 7; i >= 0; i-- {
		all = append(all, byte(uint64(len(b))*8>>(8*i)))
	}
	k := modelK()
	state := []uint64{0x6a09e667, 0xbb67ae85, 0x3c6ef372, 0xa54ff53a, 0x510e527f, 0x9b05688c, 0x1f83d9ab, 0x5be0cd19}
	for ; len(all) > 0; all = all[64:] {
		var w [64]uint64
		for t := range w {
			if t < 16 {
				for _, x := range all[4*t : 4*t+4] {
					w[t] = w[t]*256 + uint64(x)
				}
				continue
			}
			s1 := modelTurn(w[t-2], 17) ^ modelTurn(w[t-2], 19) ^ w[t-2]>>10
			s0 := modelTurn(w[t-15], 7) ^ modelTurn(w[t-15], 18) ^ w[t-15]>>3
			w[t] = (s1 + w[t-7] + s0 + w[t-16]) % word
		}
		a, b, c, d, e, f, g, h := state[0], state[1], state[2], state[3], state[4], state[5], state[6], state[7]
		for t := range w {
			not := word - 1 - e
			t1 := h + (modelTurn(e, 6) ^ modelTurn(e, 11) ^ modelTurn(e, 25)) + (e&f ^ not&g) + k[t] + w[t]
			t2 := (modelTurn(a, 2) ^ modelTurn(a, 13) ^ modelTurn(a, 22)) + (a&b ^ a&c ^ b&c)
			h, g, f, e, d, c, b, a = g, f, e, (d+t1)%word, c, b, a, (t1+t2)%word
		}
		for i, x := range []uint64{a, b, c, d, e, f, g, h} {
			state[i] = (state[i] + x) % word
		}
	}
	var sum [32]byte
	for i := range sum {
		sum[i] = byte(state[i/4] >> (24 - 8*(i%4)))
	}
	return sum
}
