package sha_test

import (
	"slices"
	"strings"
	"testing"

	"carpetbag/sha"
)

// P21.1: Sum, New, Write and a Hash's Sum.

const none = "e3b0c44298fc1c149afbf4c8996fb92427ae41e4649b934ca495991b7852b855"

func TestWrittenOut(t *testing.T) {
	for text, want := range map[string]string{
		"":    none,
		"a":   "ca978112ca1bbdcafac231b39a23dc4da786eff8147c4e72b9807785afee48bb",
		"abc": "ba7816bf8f01cfea414140de5dae2223b00361a396177a9cb410ff61f20015ad",
		"abcdbcdecdefdefgefghfghighijhijkijkljklmklmnlmnomnopnopq":                                                         "248d6a61d20638b8e5c026930c3e6039a33ce45964ff2167f6ecedd419db06c1",
		"abcdefghbcdefghicdefghijdefghijkefghijklfghijklmghijklmnhijklmnoijklmnopjklmnopqklmnopqrlmnopqrsmnopqrstnopqrstu": "cf5b16a778af8380036ce59e7b0492370b249b11e8f07a51afac45037afee9d1",
		strings.Repeat("a", 1000000): "cdc76e5c9914fb9281a1c7e284d73e67f1809a48a497200e046d39ccc7112cd0",
	} {
		hashes(t, []byte(text), bytesOf(t, want))
	}
	hashes(t, nil, bytesOf(t, none))
}

// TestEachLength has all lengths about the ends of some blocks, against the library's hash and the model.
func TestEachLength(t *testing.T) {
	d := dice(1)
	for n := range 400 {
		for _, b := range [][]byte{make([]byte, n), []byte(strings.Repeat("\xff", n)), d.bytes(n)} {
			hashes(t, b, right(b))
			if n < 200 {
				hashes(t, b, modelSum(b))
			}
		}
	}
	for _, n := range []int{1000, 4095, 4096, 65535, 65536, 65537, 1 << 20, 1<<21 + 55, 1<<24 + 3} {
		b := d.bytes(n)
		hashes(t, b, right(b))
	}
}

// TestHowManyBitsThereAre has so many that they need bytes of their own among the eight.
func TestHowManyBitsThereAre(t *testing.T) {
	for _, n := range []int{31, 32, 33, 8191, 8192, 8193, 1<<21 - 1, 1 << 21, 1 << 25} {
		b := make([]byte, n)
		hashes(t, b, right(b))
	}
}

func TestEachBitIsHashed(t *testing.T) {
	d := dice(2)
	for _, n := range []int{1, 55, 56, 64, 70, 130} {
		b := d.bytes(n)
		seen := map[[32]byte]int{sha.Sum(b): -1}
		for bit := range 8 * n {
			b[bit/8] ^= 1 << (bit % 8)
			sum := sha.Sum(b)
			if sum != right(b) {
				t.Errorf("bit %d of %d bytes turned: %x", bit, n, sum)
			}
			if other, there := seen[sum]; there {
				t.Errorf("bits %d and %d of %d bytes: one hash", other, bit, n)
			}
			seen[sum] = bit
			b[bit/8] ^= 1 << (bit % 8)
		}
	}
}

// P21.2: in however many parts bytes come.

func TestTwoParts(t *testing.T) {
	d := dice(3)
	for _, n := range []int{0, 1, 2, 55, 56, 63, 64, 65, 119, 120, 127, 128, 129, 200} {
		b := d.bytes(n)
		want := right(b)
		for cut := range n + 1 {
			h := sha.New()
			h.Write(b[:cut])
			tells(t, h, right(b[:cut]))
			h.Write(nil)
			h.Write([]byte{})
			tells(t, h, right(b[:cut]))
			h.Write(b[cut:])
			tells(t, h, want)
		}
	}
}

func TestThreeParts(t *testing.T) {
	d := dice(4)
	for _, n := range []int{0, 1, 3, 57, 64, 66, 130} {
		b := d.bytes(n)
		want := right(b)
		for first := range n + 1 {
			for second := first; second <= n; second++ {
				h := sha.New()
				h.Write(b[:first])
				h.Write(b[first:second])
				h.Write(b[second:])
				if got := h.Sum(); got != want {
					t.Fatalf("%d bytes, cut at %d and %d: %x", n, first, second, got)
				}
			}
		}
	}
}

func TestThrownParts(t *testing.T) {
	d := dice(5)
	for range 600 {
		h := sha.New()
		var all []byte
		for range d.next(12) {
			part := d.bytes([]int{0, 1, 8, 56, 63, 64, 65, d.next(300)}[d.next(8)])
			h.Write(part)
			all = append(all, part...)
			if d.next(2) == 0 {
				tells(t, h, right(all))
			}
		}
		tells(t, h, right(all))
		hashes(t, all, right(all))
	}
}

func TestByteByByte(t *testing.T) {
	d := dice(6)
	b := d.bytes(700)
	h := sha.New()
	for n := range b {
		tells(t, h, right(b[:n]))
		h.Write(b[n : n+1])
	}
	tells(t, h, right(b))
}

func TestHashesDontDependOnOneAnother(t *testing.T) {
	d := dice(7)
	var hs [5]*sha.Hash
	var all [5][]byte
	for i := range hs {
		hs[i] = sha.New()
	}
	for range 200 {
		i := d.next(len(hs))
		part := d.bytes(d.next(100))
		hs[i].Write(part)
		all[i] = append(all[i], part...)
		sha.Sum(part)
		for j := range hs {
			tells(t, hs[j], right(all[j]))
		}
	}
	// A copy of a Hash goes on alone.
	one := *hs[0]
	one.Write([]byte("more"))
	tells(t, hs[0], right(all[0]))
	tells(t, &one, right(all[0], []byte("more")))
}

// R1: a nil Hash takes none.
func TestNilHash(t *testing.T) {
	var h *sha.Hash
	for _, b := range [][]byte{nil, {}, []byte("abc"), make([]byte, 1000)} {
		tells(t, h, bytesOf(t, none))
		h.Write(b)
		tells(t, h, bytesOf(t, none))
	}
	// One that New didn't make has nothing so far, either.
	var own sha.Hash
	tells(t, &own, bytesOf(t, none))
	own.Write([]byte("abc"))
	tells(t, &own, right([]byte("abc")))
}

// R6: what is handed in is neither changed nor kept.
func TestBytesAreNeitherChangedNorKept(t *testing.T) {
	d := dice(8)
	for n := range 140 {
		room := d.bytes(n + 80)
		was := slices.Clone(room)
		b := room[:n]
		h := sha.New()
		h.Write(b)
		sum := h.Sum()
		if sum != sha.Sum(b) || !slices.Equal(room, was) {
			t.Fatalf("%d bytes: what was handed in changed", n)
		}
		clear(room)
		tells(t, h, right(was[:n]))
		h.Write(was[n:])
		tells(t, h, right(was))
	}
}
