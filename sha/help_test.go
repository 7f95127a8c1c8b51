package sha_test

import (
	"crypto/sha256"
	"encoding/hex"
	"testing"

	"carpetbag/sha"
)

// dice tells numbers that look as if thrown, the same ones each time.
type dice uint64

func (d *dice) next(below int) int {
	*d = *d*6364136223846793005 + 1442695040888963407
	return int(uint64(*d)>>33) % below
}

func (d *dice) bytes(n int) []byte {
	b := make([]byte, n)
	for i := range b {
		b[i] = byte(d.next(256))
	}
	return b
}

// hashes asks that bytes have a hash, by Sum as by a Hash.
func hashes(t *testing.T, b []byte, want [32]byte) {
	t.Helper()
	if got := sha.Sum(b); got != want {
		t.Errorf("Sum of %d bytes: %x, not %x", len(b), got, want)
	}
	h := sha.New()
	h.Write(b)
	tells(t, h, want)
}

// tells asks for a Hash's sum, twice.
func tells(t *testing.T, h *sha.Hash, want [32]byte) {
	t.Helper()
	for range 2 {
		if got := h.Sum(); got != want {
			t.Errorf("Hash: %x, not %x", got, want)
		}
	}
}

// right is the library's own hash.
func right(parts ...[]byte) [32]byte {
	h := sha256.New()
	for _, part := range parts {
		h.Write(part)
	}
	return [32]byte(h.Sum(nil))
}

// bytesOf are a hash's, told in hexadecimal.
func bytesOf(t *testing.T, s string) [32]byte {
	t.Helper()
	b, err := hex.DecodeString(s)
	if err != nil {
		t.Fatal(err)
	}
	return [32]byte(b)
}
