package sha_test

import (
	"encoding/hex"
	"strings"
	"testing"

	"carpetbag/api"
	"carpetbag/sha"
)

// P21.1: Hex and Unhex.

// thereAndBack asks for a sum's signs, and for theirs.
func thereAndBack(t *testing.T, sum [32]byte) {
	t.Helper()
	s := sha.Hex(sum)
	if s != hex.EncodeToString(sum[:]) {
		t.Errorf("Hex of %d: %q", sum, s)
	}
	if back, e := sha.Unhex(s); e != api.OK || back != sum {
		t.Errorf("Unhex of %q: %d, %d", s, back, e)
	}
}

// refuses asks that there is no sum of these signs.
func refuses(t *testing.T, s string) {
	t.Helper()
	if sum, e := sha.Unhex(s); e != api.ErrForm || sum != [32]byte{} {
		t.Errorf("Unhex of %q: %d, %d", s, sum, e)
	}
}

func TestHexWrittenOut(t *testing.T) {
	var sum [32]byte
	for i := range sum {
		sum[i] = byte(17*i + i/16)
	}
	const want = "00112233445566778899aabbccddeeff112233445566778899aabbccddeeff10"
	sum[31] = 0x10
	for i := 16; i < 31; i++ {
		sum[i] = byte(17 * (i - 15))
	}
	if got := sha.Hex(sum); got != want {
		t.Errorf("Hex: %q", got)
	}
	if got, e := sha.Unhex(want); e != api.OK || got != sum {
		t.Errorf("Unhex: %d, %d", got, e)
	}
	if got := sha.Hex([32]byte{}); got != strings.Repeat("0", 64) {
		t.Errorf("Hex of nothing: %q", got)
	}
	if got := sha.Hex(sha.Sum(nil)); got != none {
		t.Errorf("Hex of the hash of nothing: %q", got)
	}
	thereAndBack(t, [32]byte{})
}

// TestEachByteAtEachPlace has them among bytes 0, and among others.
func TestEachByteAtEachPlace(t *testing.T) {
	for at := range 32 {
		for x := range 256 {
			var alone [32]byte
			alone[at] = byte(x)
			thereAndBack(t, alone)
			among := right([]byte("others"))
			among[at] = byte(x)
			thereAndBack(t, among)
		}
	}
}

func TestUnhexLengths(t *testing.T) {
	for n := range 300 {
		for _, sign := range []string{"0", "a", "f"} {
			s := strings.Repeat(sign, n)
			if n == 64 {
				if sum, e := sha.Unhex(s); e != api.OK || sha.Hex(sum) != s {
					t.Errorf("Unhex of %q: %d, %d", s, sum, e)
				}
			} else {
				refuses(t, s)
			}
		}
	}
	refuses(t, strings.Repeat("0", 1<<20))
	for _, s := range []string{none + "\n", " " + none, none + none, "0x" + none[2:], none[:63], none[1:]} {
		refuses(t, s)
	}
}

// TestEachSignAtEachPlace has each byte stand among signs.
func TestEachSignAtEachPlace(t *testing.T) {
	for at := range 64 {
		for x := range 256 {
			s := none[:at] + string([]byte{byte(x)}) + none[at+1:]
			if !strings.Contains("0123456789abcdef", string([]byte{byte(x)})) {
				refuses(t, s)
				continue
			}
			if sum, e := sha.Unhex(s); e != api.OK || sha.Hex(sum) != s {
				t.Errorf("Unhex of %q: %d, %d", s, sum, e)
			}
		}
	}
	refuses(t, strings.ToUpper(none))
}

// TestSignsOfMoreThanOneByte has some whose bytes are 64 together, and some that are 64 alone.
func TestSignsOfMoreThanOneByte(t *testing.T) {
	for _, sign := range []string{"é", "０", "ａ", "٠", "𝟎", "\u0660"} {
		refuses(t, sign+none[len(sign):])
		refuses(t, none[:64-len(sign)]+sign)
		refuses(t, none[:63]+sign)
		refuses(t, sign+none[1:])
		refuses(t, strings.Repeat(sign, 64))
		refuses(t, strings.Repeat(sign, 64/len(sign)))
	}
}
