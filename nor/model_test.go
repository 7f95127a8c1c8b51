package nor_test

import (
	"bytes"
	"testing"

	"carpetbag/api"
	"carpetbag/nor"
)

// model is a flash told bit by bit, as the chapter's words go.
type model struct {
	bits   []bool
	erases []int
	down   bool
	fuse   int
	tear   api.Tear
}

const modelLimit = 60

func newModel() *model {
	m := &model{bits: make([]bool, 8*smallBytes), erases: make([]int, small.Sectors), fuse: -1}
	for i := range m.bits {
		m.bits[i] = true
	}
	return m
}

// burn tells whether an act is in part.
func (m *model) burn() bool {
	if m.fuse == 0 {
		m.down = true
	} else if m.fuse > 0 {
		m.fuse--
	}
	return m.down
}

// touched tells whether a bit of a byte of an act of n bytes is done.
func (m *model) touched(torn bool, i, bit, n int) bool {
	k := m.tear.Keep
	if k < 0 {
		k = 0
	}
	k %= n + 1
	return !torn || i < k || i == k && m.tear.Mask>>bit&1 == 1
}

func (m *model) program(at int, b []byte) api.Errno {
	if m.down {
		return api.ErrDown
	}
	if at < 0 || at+len(b) > smallBytes {
		return api.ErrRange
	}
	for i := range 8 * len(b) {
		if b[i/8]>>(i%8)&1 == 1 && !m.bits[8*at+i] {
			return api.ErrBit
		}
	}
	torn := m.burn()
	for i := range 8 * len(b) {
		if b[i/8]>>(i%8)&1 == 0 && m.touched(torn, i/8, i%8, len(b)) {
			m.bits[8*at+i] = false
		}
	}
	return m.answer()
}

func (m *model) erase(sector int) api.Errno {
	if m.down {
		return api.ErrDown
	}
	if sector < 0 || sector >= small.Sectors {
		return api.ErrRange
	}
	if m.erases[sector] == modelLimit {
		return api.ErrWorn
	}
	torn := m.burn()
	for i := range 8 * small.Size {
		if m.touched(torn, i/8, i%8, small.Size) {
			m.bits[8*small.Size*sector+i] = true
		}
	}
	m.erases[sector]++
	return m.answer()
}

func (m *model) answer() api.Errno {
	if m.down {
		return api.ErrDown
	}
	return api.OK
}

func (m *model) reset() { m.down, m.fuse = false, -1 }

// bytes are the bits, eight by eight.
func (m *model) bytes() []byte {
	b := make([]byte, smallBytes)
	for i, set := range m.bits {
		if set {
			b[i/8] |= 1 << (i % 8)
		}
	}
	return b
}

// dice tells numbers that look as if thrown, the same ones each time.
type dice uint32

func (d *dice) below(n int) int {
	*d = *d*1664525 + 1013904223
	return int(*d>>8) % n
}

// some is a few bytes, of which many may be programmed over what is there.
func (d *dice) some(there []byte, at int) []byte {
	b := make([]byte, d.below(6))
	for i := range b {
		b[i] = byte(d.below(256))
		if at+i >= 0 && at+i < len(there) && d.below(8) > 0 {
			b[i] &= there[at+i]
		}
	}
	return b
}

// P1.1 to P1.3, step by step: the flash answers and has what the model does, and each program only turns bits off, and only its own.
func TestAgainstModel(t *testing.T) {
	for seed := range dice(40) {
		d := seed
		f := newFlash(t, api.Geometry{Sectors: small.Sectors, Size: small.Size, Limit: modelLimit})
		m := newModel()
		for step := range 1500 {
			ahead := m.bytes()
			var got, wanted api.Errno
			switch d.below(12) {
			case 0:
				n, tear := d.below(9)-2, api.Tear{Keep: d.below(200) - 20, Mask: byte(d.below(256))}
				f.Fuse(n, tear)
				m.fuse, m.tear = n, tear
			case 1, 2:
				sector := d.below(small.Sectors+2) - 1
				got, wanted = f.Erase(sector), m.erase(sector)
			case 3:
				f.Reset()
				m.reset()
			default:
				at := d.below(smallBytes+8) - 4
				b := d.some(ahead, at)
				got, wanted = f.Program(at, b), m.program(at, b)
				onlyFalls(t, f, ahead, at, len(b))
			}
			if got != wanted {
				t.Fatalf("seed %d, step %d: %d, not %d", seed, step, got, wanted)
			}
			holds(t, f, m)
		}
	}
}

// onlyFalls holds a flash against what it had ahead of a program of n bytes.
func onlyFalls(t *testing.T, f *nor.Flash, ahead []byte, at, n int) {
	t.Helper()
	b, _ := f.Read(0, smallBytes)
	for i := range b {
		if b[i]&^ahead[i] != 0 || b[i] != ahead[i] && (i < at || i >= at+n) {
			t.Fatalf("Program(%d, %d bytes) made %#x of %#x at %d", at, n, b[i], ahead[i], i)
		}
	}
}

// holds holds all that a flash tells against a model. (What a flash has that went down is told behind its reset.)
func holds(t *testing.T, f *nor.Flash, m *model) {
	t.Helper()
	b, e := f.Read(0, smallBytes)
	if e != m.answer() || e != api.OK && b != nil {
		t.Fatalf("Read: %d, not %d", e, m.answer())
	}
	if e == api.OK && !bytes.Equal(b, m.bytes()) {
		t.Fatalf("%v, not %v", b, m.bytes())
	}
	for i, n := range m.erases {
		if f.Erases(i) != n {
			t.Fatalf("Erases(%d): %d, not %d", i, f.Erases(i), n)
		}
	}
}
