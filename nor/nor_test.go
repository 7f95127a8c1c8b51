package nor_test

import (
	"bytes"
	"math"
	"testing"

	"carpetbag/api"
	"carpetbag/nor"
)

// small is a geometry whose flash has 192 bytes.
var small = api.Geometry{Sectors: 3, Size: 64, Limit: 3}

const smallBytes = 3 * 64

// newFlash is a flash of a geometry that may be.
func newFlash(t *testing.T, g api.Geometry) *nor.Flash {
	t.Helper()
	f, e := nor.New(g)
	if e != api.OK || f == nil {
		t.Fatalf("New(%v): %v, %v", g, f, e)
	}
	return f
}

// want holds an answer against the one that is wanted.
func want(t *testing.T, what string, got, wanted api.Errno) {
	t.Helper()
	if got != wanted {
		t.Errorf("%s: %d, not %d", what, got, wanted)
	}
}

// all is what a flash has, from its beginning to its end.
func all(t *testing.T, f *nor.Flash) []byte {
	t.Helper()
	g := f.Geometry()
	b, e := f.Read(0, g.Sectors*g.Size)
	if e != api.OK || len(b) != g.Sectors*g.Size {
		t.Fatalf("Read of all: %d bytes, %d", len(b), e)
	}
	return b
}

// same is n bytes x.
func same(x byte, n int) []byte { return bytes.Repeat([]byte{x}, n) }

// P1.1: New and Geometry.

func TestGeometriesThatMayBe(t *testing.T) {
	for _, g := range []api.Geometry{
		{Sectors: 1, Size: api.MinSector, Limit: 1},
		{Sectors: api.MaxSectors, Size: api.MinSector, Limit: 1},
		{Sectors: 1, Size: api.MaxSector, Limit: 1},
		{Sectors: 1, Size: api.MinSector, Limit: api.MaxLimit},
		{Sectors: api.MaxSectors, Size: api.MaxSector, Limit: api.MaxLimit},
		{Sectors: 5, Size: 67, Limit: 9}, // nothing asks for powers of two
	} {
		f := newFlash(t, g)
		if f.Geometry() != g {
			t.Errorf("Geometry: %v, not %v", f.Geometry(), g)
		}
		if !bytes.Equal(all(t, f), same(0xff, g.Sectors*g.Size)) {
			t.Errorf("%v: not erased", g)
		}
		_, e := f.Read(g.Sectors*g.Size, 1)
		want(t, "a byte behind the end", e, api.ErrRange)
		for i := range g.Sectors {
			if f.Erases(i) != 0 {
				t.Errorf("%v: sector %d was erased", g, i)
			}
		}
		want(t, "Erase of the last sector", f.Erase(g.Sectors-1), api.OK)
		want(t, "Erase of one behind it", f.Erase(g.Sectors), api.ErrRange)
	}
}

func TestGeometriesThatMayNotBe(t *testing.T) {
	for _, g := range []api.Geometry{
		{},
		{Sectors: 0, Size: 64, Limit: 1},
		{Sectors: -1, Size: 64, Limit: 1},
		{Sectors: math.MinInt, Size: 64, Limit: 1},
		{Sectors: api.MaxSectors + 1, Size: 64, Limit: 1},
		{Sectors: math.MaxInt, Size: 64, Limit: 1},
		{Sectors: 1, Size: api.MinSector - 1, Limit: 1},
		{Sectors: 1, Size: 0, Limit: 1},
		{Sectors: 1, Size: -64, Limit: 1},
		{Sectors: 1, Size: math.MinInt, Limit: 1},
		{Sectors: 1, Size: api.MaxSector + 1, Limit: 1},
		{Sectors: 1, Size: math.MaxInt, Limit: 1},
		{Sectors: 1, Size: 64, Limit: 0},
		{Sectors: 1, Size: 64, Limit: -1},
		{Sectors: 1, Size: 64, Limit: math.MinInt},
		{Sectors: 1, Size: 64, Limit: api.MaxLimit + 1},
		{Sectors: 1, Size: 64, Limit: math.MaxInt},
		{Sectors: -1, Size: -64, Limit: 1},
	} {
		if f, e := nor.New(g); e != api.ErrArg || f != nil {
			t.Errorf("New(%v): %v, %d", g, f, e)
		}
	}
}

func TestFlashesDontDependOnOneAnother(t *testing.T) {
	a, b := newFlash(t, small), newFlash(t, small)
	a.Program(5, []byte{0})
	a.Erase(1)
	a.Fuse(0, api.Tear{})
	want(t, "Program with a fuse of 0", a.Program(0, []byte{0}), api.ErrDown)
	if !bytes.Equal(all(t, b), same(0xff, smallBytes)) || b.Erases(1) != 0 {
		t.Error("another flash changed")
	}
	want(t, "Program of the other one", b.Program(0, []byte{0}), api.OK)
}

// P1.1, P1.2: the chapter's example, Read and Program.

func TestExample(t *testing.T) {
	f := newFlash(t, small)
	want(t, "Program of 0x0F", f.Program(0, []byte{0x0f}), api.OK)
	want(t, "Program of 0xF0", f.Program(0, []byte{0xf0}), api.ErrBit)
	if b, e := f.Read(0, 1); e != api.OK || !bytes.Equal(b, []byte{0x0f}) {
		t.Error(b, e)
	}
}

// spans are places, numbers of bytes, and what Read answers there.
func spans() []struct {
	at, n int
	e     api.Errno
} {
	const end = smallBytes
	return []struct {
		at, n int
		e     api.Errno
	}{
		{0, 0, api.OK}, {0, 1, api.OK}, {0, end, api.OK}, {7, end - 7, api.OK},
		{60, 8, api.OK}, {end - 1, 1, api.OK}, {end - 1, 0, api.OK}, {end, 0, api.OK},
		{0, end + 1, api.ErrRange}, {7, end - 6, api.ErrRange}, {end - 1, 2, api.ErrRange},
		{end, 1, api.ErrRange}, {end + 1, 0, api.ErrRange}, {end + 1, 1, api.ErrRange},
		{-1, 0, api.ErrRange}, {-1, 1, api.ErrRange}, {-1, 2, api.ErrRange}, {-3, end, api.ErrRange},
		{0, -1, api.ErrRange}, {10, -1, api.ErrRange}, {10, -10, api.ErrRange}, {end, -1, api.ErrRange},
		{end + 5, -5, api.ErrRange}, {-1, -1, api.ErrRange},
		{0, math.MinInt, api.ErrRange}, {0, math.MaxInt, api.ErrRange}, {1, math.MaxInt, api.ErrRange},
		{math.MaxInt, 0, api.ErrRange}, {math.MaxInt, 1, api.ErrRange}, {math.MaxInt, math.MaxInt, api.ErrRange},
		{math.MinInt, 0, api.ErrRange}, {math.MinInt, 1, api.ErrRange}, {math.MinInt, math.MinInt, api.ErrRange},
		{math.MinInt, math.MaxInt, api.ErrRange}, {math.MaxInt, math.MinInt, api.ErrRange},
		{math.MaxInt - 63, 64, api.ErrRange}, {end, math.MaxInt - end + 1, api.ErrRange},
	}
}

func TestReadAtAllPlaces(t *testing.T) {
	f := newFlash(t, small)
	image := same(0xff, smallBytes)
	for i := range image {
		image[i] = byte(i*7 + 1)
	}
	want(t, "Program of all", f.Program(0, image), api.OK)
	for _, x := range spans() {
		b, e := f.Read(x.at, x.n)
		if e != x.e {
			t.Errorf("Read(%d, %d): %d, not %d", x.at, x.n, e, x.e)
		}
		if e != api.OK && b != nil {
			t.Errorf("Read(%d, %d): bytes beside an error", x.at, x.n)
		}
		if e == api.OK && !bytes.Equal(b, image[x.at:x.at+x.n]) {
			t.Errorf("Read(%d, %d): %v", x.at, x.n, b)
		}
	}
}

func TestProgramAtAllPlaces(t *testing.T) {
	for _, x := range spans() {
		if x.n < 0 || x.n > smallBytes+1 {
			continue
		}
		f := newFlash(t, small)
		image := same(0xff, smallBytes)
		if x.e == api.OK {
			copy(image[x.at:], same(0x3c, x.n))
		}
		if e := f.Program(x.at, same(0x3c, x.n)); e != x.e {
			t.Errorf("Program(%d, %d bytes): %d, not %d", x.at, x.n, e, x.e)
		}
		if !bytes.Equal(all(t, f), image) {
			t.Errorf("Program(%d, %d bytes): other bytes than asked", x.at, x.n)
		}
	}
}

func TestProgramOfNothing(t *testing.T) {
	f := newFlash(t, small)
	f.Program(0, []byte{0})
	for _, b := range [][]byte{nil, {}} {
		want(t, "at 0", f.Program(0, b), api.OK)
		want(t, "at the end", f.Program(smallBytes, b), api.OK)
		want(t, "beyond the end", f.Program(smallBytes+1, b), api.ErrRange)
		want(t, "below 0", f.Program(-1, b), api.ErrRange)
	}
	if b := all(t, f); b[0] != 0 || !bytes.Equal(b[1:], same(0xff, smallBytes-1)) {
		t.Error("bytes changed")
	}
}

func TestProgramOfEachByteOverEachByte(t *testing.T) {
	f := newFlash(t, api.Geometry{Sectors: 1, Size: 256, Limit: 256})
	row := make([]byte, 256)
	for i := range row {
		row[i] = byte(i)
	}
	for x := range 256 {
		want(t, "Erase", f.Erase(0), api.OK)
		want(t, "Program of all bytes", f.Program(0, row), api.OK)
		for i := range row {
			e, stays := api.OK, byte(x)
			if x|i != i {
				e, stays = api.ErrBit, row[i]
			}
			if got := f.Program(i, []byte{byte(x)}); got != e {
				t.Fatalf("%#x over %#x: %d, not %d", x, i, got, e)
			}
			if b, _ := f.Read(i, 1); b[0] != stays {
				t.Fatalf("%#x over %#x: %#x, not %#x", x, i, b[0], stays)
			}
		}
	}
}

func TestProgramAcrossSectors(t *testing.T) {
	f := newFlash(t, small)
	want(t, "Program", f.Program(62, []byte{1, 2, 3, 4}), api.OK)
	image := same(0xff, smallBytes)
	copy(image[62:], []byte{1, 2, 3, 4})
	if !bytes.Equal(all(t, f), image) {
		t.Error(all(t, f))
	}
	want(t, "Erase of the first sector", f.Erase(0), api.OK)
	image[62], image[63] = 0xff, 0xff
	if !bytes.Equal(all(t, f), image) {
		t.Error(all(t, f))
	}
}

func TestMemoryIsntShared(t *testing.T) {
	f := newFlash(t, small)
	spare := []byte{0x11, 0x22, 0x33, 0x44}
	want(t, "Program", f.Program(0, spare[:2]), api.OK)
	if !bytes.Equal(spare, []byte{0x11, 0x22, 0x33, 0x44}) {
		t.Error("what was handed in changed", spare)
	}
	spare[0] = 0
	b, _ := f.Read(0, 3)
	c, _ := f.Read(0, 3)
	b[0], b[2] = 0x77, 0x77
	_ = append(b[:1], 0x66)
	if !bytes.Equal(c, []byte{0x11, 0x22, 0xff}) {
		t.Error("two answers share memory", c)
	}
	if d, _ := f.Read(0, 4); !bytes.Equal(d, []byte{0x11, 0x22, 0xff, 0xff}) {
		t.Error("the flash shares memory", d)
	}
}

// P1.1: Erase and Erases.

func TestEraseOfASector(t *testing.T) {
	for sector := range small.Sectors {
		f := newFlash(t, small)
		f.Program(0, make([]byte, smallBytes))
		want(t, "Erase", f.Erase(sector), api.OK)
		image := make([]byte, smallBytes)
		copy(image[sector*small.Size:], same(0xff, small.Size))
		if !bytes.Equal(all(t, f), image) {
			t.Errorf("Erase(%d): %v", sector, all(t, f))
		}
		for i := range small.Sectors {
			if n := f.Erases(i); n != 1 && i == sector || n != 0 && i != sector {
				t.Errorf("Erase(%d): Erases(%d) is %d", sector, i, n)
			}
		}
	}
}

func TestSectorsThatArentThere(t *testing.T) {
	f := newFlash(t, small)
	for range small.Limit {
		f.Erase(2)
	}
	for _, sector := range []int{-1, 3, 4, math.MinInt, math.MaxInt, math.MaxInt/64 + 1, 1 << 58} {
		want(t, "Erase", f.Erase(sector), api.ErrRange)
		if n := f.Erases(sector); n != 0 {
			t.Errorf("Erases(%d): %d", sector, n)
		}
	}
}

func TestWorn(t *testing.T) {
	f := newFlash(t, small)
	for i := range small.Limit {
		if f.Erases(1) != i {
			t.Errorf("Erases: %d, not %d", f.Erases(1), i)
		}
		want(t, "Erase", f.Erase(1), api.OK)
	}
	f.Program(64, []byte{0x55})
	for range 2 {
		want(t, "Erase of a worn one", f.Erase(1), api.ErrWorn)
	}
	if b, _ := f.Read(64, 1); f.Erases(1) != small.Limit || b[0] != 0x55 {
		t.Error("an erase that was refused was done", f.Erases(1), b)
	}
	want(t, "Program of a worn one", f.Program(64, []byte{0x51}), api.OK)
	want(t, "Erase of another one", f.Erase(0), api.OK)
}

func TestLeastLimit(t *testing.T) {
	f := newFlash(t, api.Geometry{Sectors: 1, Size: 64, Limit: 1})
	want(t, "the first erase", f.Erase(0), api.OK)
	want(t, "the second one", f.Erase(0), api.ErrWorn)
}

func TestGreatestLimit(t *testing.T) {
	f := newFlash(t, api.Geometry{Sectors: 1, Size: 64, Limit: api.MaxLimit})
	for range api.MaxLimit {
		if e := f.Erase(0); e != api.OK {
			t.Fatal(e)
		}
	}
	want(t, "one more erase", f.Erase(0), api.ErrWorn)
	if f.Erases(0) != api.MaxLimit {
		t.Error(f.Erases(0))
	}
}

// P1.1: Fuse, and acts in part.

func TestFuseCountsActs(t *testing.T) {
	for n := range 5 {
		f := newFlash(t, small)
		f.Fuse(n, api.Tear{})
		for i := range n {
			if i%2 == 0 {
				want(t, "Program", f.Program(i, []byte{0}), api.OK)
			} else {
				want(t, "Erase", f.Erase(1), api.OK)
			}
			all(t, f)
		}
		want(t, "the act with a fuse of 0", f.Program(100, []byte{0}), api.ErrDown)
		_, e := f.Read(0, 1)
		want(t, "Read behind it", e, api.ErrDown)
		f.Reset()
		if b, _ := f.Read(100, 1); b[0] != 0xff {
			t.Errorf("fuse of %d: the last act was done", n)
		}
	}
}

func TestNoFuse(t *testing.T) {
	for _, n := range []int{-1, -2, math.MinInt} {
		f := newFlash(t, api.Geometry{Sectors: 1, Size: 64, Limit: 20})
		f.Fuse(0, api.Tear{})
		f.Fuse(n, api.Tear{})
		for range 20 {
			want(t, "Erase", f.Erase(0), api.OK)
			want(t, "Program", f.Program(0, []byte{0}), api.OK)
		}
	}
}

func TestGreatFuse(t *testing.T) {
	f := newFlash(t, small)
	f.Fuse(math.MaxInt, api.Tear{})
	want(t, "Program", f.Program(0, []byte{0}), api.OK)
	want(t, "Erase", f.Erase(0), api.OK)
}

func TestFuseIsSetAnew(t *testing.T) {
	f := newFlash(t, small)
	f.Fuse(1, api.Tear{Keep: 2})
	want(t, "Program", f.Program(0, []byte{0}), api.OK)
	f.Fuse(1, api.Tear{Keep: 1})
	want(t, "Program", f.Program(1, []byte{0}), api.OK)
	want(t, "Program of three", f.Program(2, []byte{0, 0, 0}), api.ErrDown)
	f.Reset()
	if b, _ := f.Read(0, 5); !bytes.Equal(b, []byte{0, 0, 0, 0xff, 0xff}) {
		t.Error(b)
	}
}

func TestAnActOfNoBytesBurnsTheFuse(t *testing.T) {
	f := newFlash(t, small)
	f.Fuse(1, api.Tear{})
	want(t, "the first one", f.Program(0, nil), api.OK)
	want(t, "the second one", f.Program(0, []byte{0}), api.ErrDown)
	f.Reset()
	for _, keep := range []int{-1, 0, 1, 2} {
		f.Fuse(0, api.Tear{Keep: keep, Mask: 0xff})
		want(t, "of no bytes, in part", f.Program(smallBytes, nil), api.ErrDown)
		f.Reset()
	}
	if !bytes.Equal(all(t, f), same(0xff, smallBytes)) {
		t.Error("bytes changed")
	}
}

// keeps are a tear's Keep, and how many of n bytes are done by it.
func keeps(n int) map[int]int {
	return map[int]int{
		math.MinInt: 0, -n - 1: 0, -n: 0, -1: 0, 0: 0, 1: 1, n - 1: n - 1, n: n,
		n + 1: 0, n + 2: 1, 2*n + 1: n, 2*n + 2: 0, 5*(n+1) + 3: 3,
		math.MaxInt: math.MaxInt % (n + 1),
	}
}

func masks() []byte { return []byte{0, 1, 0x0f, 0x5a, 0x80, 0xff} }

func TestProgramInPart(t *testing.T) {
	old := []byte{0xff, 0xf5, 0x3c, 0xff, 0x0f, 0x81, 0x00}
	row := []byte{0x00, 0xa5, 0x18, 0xff, 0x05, 0x80, 0x00}
	for keep, done := range keeps(len(row)) {
		for _, m := range masks() {
			f := newFlash(t, small)
			f.Program(61, old)
			image := all(t, f)
			copy(image[61:], row[:done])
			if done < len(row) {
				image[61+done] = old[done] & (row[done] | ^m)
			}
			f.Fuse(0, api.Tear{Keep: keep, Mask: m})
			want(t, "Program", f.Program(61, row), api.ErrDown)
			f.Reset()
			if !bytes.Equal(all(t, f), image) {
				t.Fatalf("tear %d, %#x: %v, not %v", keep, m, all(t, f)[61:68], image[61:68])
			}
		}
	}
}

func TestEraseInPart(t *testing.T) {
	for keep, done := range keeps(small.Size) {
		for _, m := range masks() {
			for sector := range small.Sectors {
				f := newFlash(t, small)
				f.Program(0, same(0x24, smallBytes))
				image := same(0x24, smallBytes)
				from := sector * small.Size
				copy(image[from:], same(0xff, done))
				if done < small.Size {
					image[from+done] = 0x24 | m
				}
				f.Fuse(0, api.Tear{Keep: keep, Mask: m})
				want(t, "Erase", f.Erase(sector), api.ErrDown)
				if f.Erases(sector) != 1 {
					t.Errorf("Erases behind an erase in part: %d", f.Erases(sector))
				}
				f.Reset()
				if !bytes.Equal(all(t, f), image) {
					t.Fatalf("sector %d, tear %d, %#x: %v", sector, keep, m, all(t, f))
				}
			}
		}
	}
}

func TestAnEraseInPartWears(t *testing.T) {
	f := newFlash(t, small)
	for range small.Limit {
		f.Fuse(0, api.Tear{})
		want(t, "Erase", f.Erase(0), api.ErrDown)
		f.Reset()
	}
	f.Fuse(0, api.Tear{})
	want(t, "Erase of a worn one", f.Erase(0), api.ErrWorn)
	if f.Erases(0) != small.Limit {
		t.Error(f.Erases(0))
	}
}

// P1.1: a flash that is down, or nil.

func TestDown(t *testing.T) {
	f := newFlash(t, small)
	f.Program(0, []byte{1})
	f.Erase(2)
	f.Fuse(0, api.Tear{})
	want(t, "Program in part", f.Program(0, []byte{0}), api.ErrDown)
	for _, x := range spans() {
		b, e := f.Read(x.at, x.n)
		want(t, "Read", e, api.ErrDown)
		if b != nil {
			t.Error("bytes beside an error")
		}
	}
	want(t, "Program", f.Program(1, []byte{0}), api.ErrDown)
	want(t, "Program of nothing", f.Program(1, nil), api.ErrDown)
	want(t, "Program beyond the end", f.Program(smallBytes, []byte{0}), api.ErrDown)
	want(t, "Program of a bit", f.Program(0, []byte{0xff}), api.ErrDown)
	want(t, "Erase", f.Erase(0), api.ErrDown)
	want(t, "Erase of one that isn't there", f.Erase(3), api.ErrDown)
	if f.Geometry() != small || f.Erases(2) != 1 || f.Erases(0) != 0 || f.Erases(3) != 0 {
		t.Error(f.Geometry(), f.Erases(2), f.Erases(0), f.Erases(3))
	}
	f.Fuse(-1, api.Tear{})
	want(t, "Program behind Fuse", f.Program(1, []byte{0}), api.ErrDown)
	f.Reset()
	if b := all(t, f); b[0] != 1 || !bytes.Equal(b[1:], same(0xff, smallBytes-1)) {
		t.Error("an act was done while it was down", b)
	}
}

func TestReset(t *testing.T) {
	f := newFlash(t, small)
	f.Fuse(0, api.Tear{})
	f.Reset()
	want(t, "Reset of one that is up", f.Program(0, []byte{0}), api.OK)
	f.Fuse(0, api.Tear{})
	want(t, "Erase in part", f.Erase(0), api.ErrDown)
	f.Fuse(1, api.Tear{})
	f.Reset()
	for i := range 5 {
		want(t, "Program behind Reset", f.Program(10+i, []byte{0}), api.OK)
	}
	if f.Geometry() != small || f.Erases(0) != 1 {
		t.Error(f.Geometry(), f.Erases(0))
	}
}

func TestNil(t *testing.T) {
	var f *nor.Flash
	f.Fuse(5, api.Tear{Keep: 1, Mask: 1})
	f.Reset()
	for _, x := range spans() {
		b, e := f.Read(x.at, x.n)
		want(t, "Read", e, api.ErrDown)
		if b != nil {
			t.Error("bytes beside an error")
		}
		want(t, "Program", f.Program(x.at, []byte{0}), api.ErrDown)
		want(t, "Program of nothing", f.Program(x.at, nil), api.ErrDown)
		want(t, "Erase", f.Erase(x.n), api.ErrDown)
		if f.Erases(x.n) != 0 {
			t.Error(f.Erases(x.n))
		}
	}
	if f.Geometry() != (api.Geometry{}) {
		t.Error(f.Geometry())
	}
}

func TestAFlashThatNewDidntMake(t *testing.T) {
	f := new(nor.Flash)
	for range 2 {
		f.Read(0, 0)
		f.Read(0, 1)
		f.Program(0, nil)
		f.Program(0, []byte{0})
		f.Erase(0)
		if f.Erases(0) != 0 || f.Geometry() != (api.Geometry{}) {
			t.Error(f.Erases(0), f.Geometry())
		}
		f.Reset()
	}
}

// P1.3: what was refused did nothing.

func TestRefusedDidNothing(t *testing.T) {
	for _, x := range []struct {
		what string
		act  func(f *nor.Flash) api.Errno
		e    api.Errno
	}{
		{"Read beyond", func(f *nor.Flash) api.Errno { _, e := f.Read(0, smallBytes+1); return e }, api.ErrRange},
		{"Read below 0", func(f *nor.Flash) api.Errno { _, e := f.Read(5, -1); return e }, api.ErrRange},
		{"Program below 0", func(f *nor.Flash) api.Errno { return f.Program(-1, []byte{0, 0}) }, api.ErrRange},
		{"Program beyond", func(f *nor.Flash) api.Errno { return f.Program(smallBytes-1, []byte{0, 0}) }, api.ErrRange},
		{"Program of a bit and beyond", func(f *nor.Flash) api.Errno { return f.Program(0, same(0xff, smallBytes+1)) }, api.ErrRange},
		{"Program of a bit at first", func(f *nor.Flash) api.Errno { return f.Program(3, []byte{0xf0, 0}) }, api.ErrBit},
		{"Program of a bit at last", func(f *nor.Flash) api.Errno { return f.Program(0, []byte{0, 0, 0, 0x10}) }, api.ErrBit},
		{"Erase below 0", func(f *nor.Flash) api.Errno { return f.Erase(-1) }, api.ErrRange},
		{"Erase beyond", func(f *nor.Flash) api.Errno { return f.Erase(3) }, api.ErrRange},
		{"Erase of a worn one", func(f *nor.Flash) api.Errno { return f.Erase(1) }, api.ErrWorn},
	} {
		f := newFlash(t, small)
		for range small.Limit {
			f.Erase(1)
		}
		f.Program(3, []byte{0x0f})
		f.Program(70, []byte{0x0f})
		ahead := all(t, f)
		for fuse := range 3 {
			f.Fuse(fuse, api.Tear{Keep: 1, Mask: 0xff})
			for range 3 {
				want(t, x.what, x.act(f), x.e)
			}
			if !bytes.Equal(all(t, f), ahead) || f.Erases(0) != 0 || f.Erases(1) != small.Limit || f.Erases(2) != 0 {
				t.Errorf("%s: something was done", x.what)
			}
			for range fuse {
				want(t, x.what+": the fuse is shorter", f.Program(3, []byte{0x0f}), api.OK)
			}
			want(t, x.what+": the fuse is gone", f.Program(3, []byte{0x0f}), api.ErrDown)
			f.Reset()
		}
	}
}
