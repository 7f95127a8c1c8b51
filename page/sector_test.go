package page_test

import (
	"bytes"
	"math"
	"testing"

	"carpetbag/api"
	"carpetbag/nor"
	"carpetbag/page"
)

// small is a geometry whose flash has 192 bytes.
var small = api.Geometry{Sectors: 3, Size: 64, Limit: 3}

// geometries are the edges of what may be, and one that is no power of two.
func geometries() []api.Geometry {
	return []api.Geometry{
		small,
		{Sectors: 1, Size: api.MinSector, Limit: 2},
		{Sectors: 5, Size: 67, Limit: 9},
		{Sectors: api.MaxSectors, Size: api.MinSector, Limit: api.MaxLimit},
		{Sectors: 2, Size: api.MaxSector, Limit: 2},
	}
}

// newFlash is a flash of a geometry that may be.
func newFlash(t *testing.T, g api.Geometry) *nor.Flash {
	t.Helper()
	f, e := nor.New(g)
	if e != api.OK {
		t.Fatalf("New(%v): %d", g, e)
	}
	return f
}

// want holds an answer against the one that is wanted.
func want(t *testing.T, what string, got, wanted api.Errno) {
	t.Helper()
	if got != wanted {
		t.Fatalf("%s: %d, not %d", what, got, wanted)
	}
}

// lay programs bytes at a sector's beginning.
func lay(t *testing.T, f *nor.Flash, sector int, b []byte) {
	t.Helper()
	want(t, "Program", f.Program(sector*f.Geometry().Size, b), api.OK)
}

// has is what a sector has.
func has(t *testing.T, f *nor.Flash, sector int) []byte {
	t.Helper()
	size := f.Geometry().Size
	b, e := f.Read(sector*size, size)
	want(t, "Read", e, api.OK)
	return b
}

// all is what a flash has, from its beginning to its end.
func all(t *testing.T, f *nor.Flash) []byte {
	t.Helper()
	row := []byte{}
	for sector := range f.Geometry().Sectors {
		row = append(row, has(t, f, sector)...)
	}
	return row
}

// looks holds what Look answers against what is wanted.
func looks(t *testing.T, f *nor.Flash, sector int, wanted api.Sector) {
	t.Helper()
	if s, e := page.Look(f, sector); e != api.OK || s != wanted {
		t.Fatalf("Look(%d): %v, %d, not %v", sector, s, e, wanted)
	}
}

// padded is a sector of so many bytes that begins so.
func padded(b []byte, n int) []byte { return append(append([]byte(nil), b...), same(255, n-len(b))...) }

// strangers are numbers of sectors that a flash of so many hasn't.
func strangers(n int) []int {
	return []int{-1, -2, -n, n, n + 1, 2 * n, 64, 65, 1 << 32, 1 << 58, -1 << 58, 1<<58 + 1,
		math.MaxInt / 64, math.MaxInt/64 + 1, math.MaxInt - 1, math.MaxInt, math.MinInt + 1, math.MinInt}
}

// P4.1: Look.

func TestLookOfANewFlash(t *testing.T) {
	for _, g := range geometries() {
		f := newFlash(t, g)
		for sector := range g.Sectors {
			looks(t, f, sector, api.Sector{})
		}
	}
}

func TestLookOfEachBit(t *testing.T) {
	for bit := range 8 * small.Size {
		for sector := range small.Sectors {
			f := newFlash(t, small)
			want(t, "Program", f.Program(sector*small.Size+bit/8, []byte{^byte(1 << (bit % 8))}), api.OK)
			for i := range small.Sectors {
				wanted := api.Sector{}
				if i == sector {
					wanted.State = api.Dirty
				}
				looks(t, f, i, wanted)
			}
		}
	}
}

func TestLookOfTheLastBitOfAGreatSector(t *testing.T) {
	f := newFlash(t, api.Geometry{Sectors: 3, Size: api.MaxSector, Limit: 1})
	want(t, "Program", f.Program(2*api.MaxSector-1, []byte{0xfe}), api.OK)
	looks(t, f, 0, api.Sector{})
	looks(t, f, 1, api.Sector{State: api.Dirty})
	looks(t, f, 2, api.Sector{})
}

func TestLookOfHeaders(t *testing.T) {
	wrongMark := append(summed('B', 'C', 0, 0, 0, 5), 0, 255, 255, 255)
	wrongSum := header(5, 0, 255, 255, 255)
	wrongSum[5] = 4
	for _, x := range []struct {
		what  string
		bytes []byte
		want  api.Sector
	}{
		{"used", header(5, 0, 255, 255, 255), api.Sector{State: api.Used, Seq: 5}},
		{"used, Seq 0", header(0, 0, 255, 255, 255), api.Sector{State: api.Used}},
		{"used, the greatest Seq", header(math.MaxUint32, 0, 255, 255, 255), api.Sector{State: api.Used, Seq: math.MaxUint32}},
		{"used, with bytes behind", append(header(5, 0, 255, 255, 255), same(0, 52)...), api.Sector{State: api.Used, Seq: 5}},
		{"used, of any spare bytes", header(5, 0, 255, 0, 0x5a), api.Sector{State: api.Used, Seq: 5}},
		{"not live", header(5, 255, 255, 255, 255), api.Sector{State: api.Dirty}},
		{"live in part", header(5, 1, 255, 255, 255), api.Sector{State: api.Dirty}},
		{"live in another part", header(5, 0x80, 255, 255, 255), api.Sector{State: api.Dirty}},
		{"void", header(5, 0, 0, 255, 255), api.Sector{State: api.Dirty}},
		{"void in part", header(5, 0, 0xfe, 255, 255), api.Sector{State: api.Dirty}},
		{"void in another part", header(5, 0, 0x7f, 255, 255), api.Sector{State: api.Dirty}},
		{"void, not live", header(5, 255, 0, 255, 255), api.Sector{State: api.Dirty}},
		{"begun", begun(5), api.Sector{State: api.Dirty}},
		{"a mark", []byte("CB"), api.Sector{State: api.Dirty}},
		{"wrong mark", wrongMark, api.Sector{State: api.Dirty}},
		{"wrong sum", wrongSum, api.Sector{State: api.Dirty}},
		{"a header one byte on", append([]byte{255}, header(5, 0, 255, 255, 255)...), api.Sector{State: api.Dirty}},
		{"all 0", same(0, 64), api.Sector{State: api.Dirty}},
	} {
		for sector := range small.Sectors {
			f := newFlash(t, small)
			lay(t, f, sector, x.bytes)
			for i := range small.Sectors {
				wanted := api.Sector{}
				if i == sector {
					wanted = x.want
				}
				if s, e := page.Look(f, i); e != api.OK || s != wanted {
					t.Errorf("%s in %d: Look(%d): %v, %d, not %v", x.what, sector, i, s, e, wanted)
				}
			}
		}
	}
}

func TestLookOfAllFlags(t *testing.T) {
	f := newFlash(t, api.Geometry{Sectors: 2, Size: 64, Limit: api.MaxLimit})
	for live := range 256 {
		for void := range 256 {
			want(t, "Erase", f.Erase(1), api.OK)
			lay(t, f, 1, header(77, byte(live), byte(void), 255, 255))
			wanted := api.Sector{State: api.Dirty, Erases: f.Erases(1)}
			if live == 0 && void == 255 {
				wanted.State, wanted.Seq = api.Used, 77
			}
			looks(t, f, 1, wanted)
		}
	}
}

func TestLookTellsErases(t *testing.T) {
	f := newFlash(t, small)
	for i := range small.Limit + 1 {
		looks(t, f, 0, api.Sector{})
		looks(t, f, 1, api.Sector{Erases: i})
		want(t, "Open", page.Open(f, 1, 9), api.OK)
		looks(t, f, 1, api.Sector{State: api.Used, Seq: 9, Erases: i})
		want(t, "Void", page.Void(f, 1), api.OK)
		looks(t, f, 1, api.Sector{State: api.Dirty, Erases: i})
		f.Erase(1)
	}
}

func TestLookIsNoAct(t *testing.T) {
	f := newFlash(t, small)
	lay(t, f, 1, header(5, 0, 255, 255, 255))
	ahead := all(t, f)
	f.Fuse(0, api.Tear{Keep: 1, Mask: 255})
	for range 2 {
		looks(t, f, 0, api.Sector{})
		looks(t, f, 1, api.Sector{State: api.Used, Seq: 5})
	}
	if !bytes.Equal(all(t, f), ahead) {
		t.Error("Look changed something")
	}
	want(t, "the act behind it", f.Erase(0), api.ErrDown)
}

// P4.1: Open.

func TestOpenOfBlankOnes(t *testing.T) {
	for _, g := range geometries() {
		for sector := range g.Sectors {
			f := newFlash(t, g)
			ahead := all(t, f)
			seq := uint32(1000 + sector)
			f.Fuse(2, api.Tear{})
			want(t, "Open", page.Open(f, sector, seq), api.OK)
			copy(ahead[sector*g.Size:], header(seq, 0, 255, 255, 255))
			if !bytes.Equal(all(t, f), ahead) {
				t.Fatalf("%v: Open(%d): other bytes than asked", g, sector)
			}
			looks(t, f, sector, api.Sector{State: api.Used, Seq: seq})
			want(t, "the act behind two", f.Program(0, nil), api.ErrDown)
		}
	}
}

func TestOpenOfAllSeqs(t *testing.T) {
	f := newFlash(t, api.Geometry{Sectors: 2, Size: 64, Limit: api.MaxLimit})
	for i, seq := range seqs() {
		want(t, "Open", page.Open(f, 1, seq), api.OK)
		if !bytes.Equal(has(t, f, 1), padded(header(seq, 0, 255, 255, 255), 64)) {
			t.Fatalf("Open of Seq %d: % x", seq, has(t, f, 1))
		}
		looks(t, f, 1, api.Sector{State: api.Used, Seq: seq, Erases: i})
		want(t, "Void", page.Void(f, 1), api.OK)
	}
}

// dirt is what makes a sector of 64 bytes dirty.
func dirt() [][]byte {
	return [][]byte{
		{0xfe},
		padded(nil, 63),
		append(same(255, 63), 0x7f),
		append(same(255, 12), 1, 2, 3),
		begun(8),
		header(8, 255, 255, 255, 255),
		header(8, 1, 255, 255, 255),
		header(8, 0, 0, 255, 255),
		header(8, 0, 0xfe, 255, 255),
		append(header(8, 0, 0, 255, 255), same(0, 52)...),
		append(summed('C', 'C', 0, 0, 0, 8), 0, 255, 255, 255),
		same(0, 64),
	}
}

func TestOpenOfDirtyOnes(t *testing.T) {
	for i, b := range dirt() {
		for sector := range small.Sectors {
			f := newFlash(t, small)
			f.Program(0, same(0x24, 3*64))
			f.Erase(sector)
			lay(t, f, sector, b)
			ahead, erases, acts := all(t, f), 2, 3
			if i == 1 { // nothing was turned
				erases, acts = 1, 2
			}
			f.Fuse(acts, api.Tear{})
			want(t, "Open", page.Open(f, sector, 6), api.OK)
			copy(ahead[sector*64:], padded(header(6, 0, 255, 255, 255), 64))
			if !bytes.Equal(all(t, f), ahead) {
				t.Fatalf("Open(%d) of % x: other bytes than asked", sector, b)
			}
			looks(t, f, sector, api.Sector{State: api.Used, Seq: 6, Erases: erases})
			looks(t, f, (sector+1)%3, api.Sector{State: api.Dirty})
			want(t, "the act behind these", f.Program(0, nil), api.ErrDown)
		}
	}
}

func TestOpenOfUsedOnes(t *testing.T) {
	for _, b := range [][]byte{
		header(8, 0, 255, 255, 255),
		header(0, 0, 255, 255, 255),
		header(math.MaxUint32, 0, 255, 255, 255),
		append(header(8, 0, 255, 255, 255), same(0x11, 52)...),
	} {
		for _, seq := range []uint32{0, 7, 8, 9, math.MaxUint32} {
			f := newFlash(t, small)
			lay(t, f, 1, b)
			wontOpen(t, f, 1, seq, api.ErrBusy)
		}
	}
}

// wontOpen holds that Open is refused, and does nothing.
func wontOpen(t *testing.T, f *nor.Flash, sector int, seq uint32, wanted api.Errno) {
	t.Helper()
	ahead := all(t, f)
	before, _ := page.Look(f, sector)
	f.Fuse(0, api.Tear{Keep: 5, Mask: 255})
	for range 2 {
		want(t, "Open", page.Open(f, sector, seq), wanted)
	}
	if !bytes.Equal(all(t, f), ahead) {
		t.Fatalf("Open(%d), which was refused, changed something", sector)
	}
	if behind, _ := page.Look(f, sector); behind != before {
		t.Fatalf("Open(%d), which was refused: %v, ahead of it %v", sector, behind, before)
	}
	want(t, "the fuse behind what was refused", f.Program(0, nil), api.ErrDown)
	f.Reset()
}

func TestOpenOfWornOnes(t *testing.T) {
	for _, b := range dirt() {
		f := newFlash(t, small)
		for range small.Limit {
			want(t, "Erase", f.Erase(2), api.OK)
		}
		lay(t, f, 2, b)
		if bytes.Equal(has(t, f, 2), same(255, 64)) {
			continue
		}
		wontOpen(t, f, 2, 5, api.ErrWorn)
	}
	f := newFlash(t, small)
	for range small.Limit {
		want(t, "Erase", f.Erase(2), api.OK)
	}
	want(t, "Open of a blank one", page.Open(f, 2, 5), api.OK)
	looks(t, f, 2, api.Sector{State: api.Used, Seq: 5, Erases: 3})
	wontOpen(t, f, 2, 6, api.ErrBusy)
	want(t, "Void of a worn one", page.Void(f, 2), api.OK)
	looks(t, f, 2, api.Sector{State: api.Dirty, Erases: 3})
	wontOpen(t, f, 2, 6, api.ErrWorn)
}

func TestOpenOfTheLastEraseButOne(t *testing.T) {
	f := newFlash(t, api.Geometry{Sectors: 1, Size: 64, Limit: 1})
	lay(t, f, 0, []byte{0})
	want(t, "Open", page.Open(f, 0, 1), api.OK)
	looks(t, f, 0, api.Sector{State: api.Used, Seq: 1, Erases: 1})
}

// P4.1: Void.

func TestVoid(t *testing.T) {
	starts := append(dirt(), nil, header(5, 0, 255, 255, 255), append(header(5, 0, 255, 255, 255), same(0x33, 52)...))
	for _, b := range starts {
		for sector := range small.Sectors {
			f := newFlash(t, small)
			lay(t, f, sector, b)
			ahead := all(t, f)
			ahead[sector*64+9] = 0
			for range 3 { // void, void twice
				f.Fuse(1, api.Tear{})
				want(t, "Void", page.Void(f, sector), api.OK)
				if !bytes.Equal(all(t, f), ahead) {
					t.Fatalf("Void(%d) of % x: other bytes than asked", sector, b)
				}
				looks(t, f, sector, api.Sector{State: api.Dirty})
				looks(t, f, (sector+1)%3, api.Sector{})
				want(t, "the act behind one", f.Program(0, nil), api.ErrDown)
				f.Reset()
			}
		}
	}
}

func TestVoidOfGeometries(t *testing.T) {
	for _, g := range geometries() {
		for sector := range g.Sectors {
			f := newFlash(t, g)
			want(t, "Open", page.Open(f, sector, 3), api.OK)
			want(t, "Void", page.Void(f, sector), api.OK)
			if !bytes.Equal(has(t, f, sector), padded(header(3, 0, 0, 255, 255), g.Size)) {
				t.Fatalf("%v: Void(%d): other bytes than asked", g, sector)
			}
		}
	}
}

func TestVoidInPart(t *testing.T) {
	for _, x := range []struct {
		keep int
		mask byte
		void byte
	}{
		{0, 0, 255}, {0, 1, 0xfe}, {0, 0x80, 0x7f}, {0, 255, 0}, {1, 0, 0}, {1, 255, 0}, {2, 0, 255}, {-1, 1, 0xfe}, {3, 0, 0},
	} {
		f := newFlash(t, small)
		want(t, "Open", page.Open(f, 1, 4), api.OK)
		f.Fuse(0, api.Tear{Keep: x.keep, Mask: x.mask})
		want(t, "Void", page.Void(f, 1), api.ErrDown)
		f.Reset()
		if !bytes.Equal(has(t, f, 1), padded(header(4, 0, x.void, 255, 255), 64)) {
			t.Errorf("tear %d, %#x: % x", x.keep, x.mask, has(t, f, 1))
		}
		wanted := api.Sector{State: api.Dirty}
		if x.void == 255 {
			wanted = api.Sector{State: api.Used, Seq: 4}
		}
		looks(t, f, 1, wanted)
	}
}

// P4.1: sectors that aren't there, a flash that is down, or nil.

// none holds that the three calls answer an error.
func none(t *testing.T, what string, f *nor.Flash, sector int, wanted api.Errno) {
	t.Helper()
	s, e := page.Look(f, sector)
	want(t, what+": Look", e, wanted)
	if s != (api.Sector{}) {
		t.Fatalf("%s: Look(%d): %v beside an error", what, sector, s)
	}
	want(t, what+": Open", page.Open(f, sector, 5), wanted)
	want(t, what+": Void", page.Void(f, sector), wanted)
}

func TestSectorsThatArentThere(t *testing.T) {
	for _, g := range geometries() {
		f := newFlash(t, g)
		f.Program(0, same(0x24, g.Sectors*g.Size))
		for _, sector := range strangers(g.Sectors) {
			if 0 <= sector && sector < g.Sectors {
				continue
			}
			f.Fuse(0, api.Tear{Keep: 1, Mask: 255})
			none(t, "a stranger", f, sector, api.ErrRange)
		}
		if !bytes.Equal(all(t, f), same(0x24, g.Sectors*g.Size)) {
			t.Error("what was refused changed something")
		}
		want(t, "the fuse behind what was refused", f.Program(0, nil), api.ErrDown)
		for _, sector := range strangers(g.Sectors) {
			if 0 <= sector && sector < g.Sectors {
				continue
			}
			none(t, "a stranger of a flash that is down", f, sector, api.ErrRange)
		}
	}
}

func TestDown(t *testing.T) {
	f := newFlash(t, small)
	for range small.Limit { // named behind it
		f.Erase(0)
	}
	lay(t, f, 0, []byte{0})
	want(t, "Open", page.Open(f, 1, 5), api.OK)
	ahead := all(t, f)
	f.Fuse(0, api.Tear{})
	want(t, "Program", f.Program(0, []byte{0}), api.ErrDown)
	for sector := range small.Sectors {
		none(t, "down", f, sector, api.ErrDown)
	}
	f.Reset()
	if !bytes.Equal(all(t, f), ahead) {
		t.Error("a flash that was down changed")
	}
	looks(t, f, 1, api.Sector{State: api.Used, Seq: 5})
}

func TestNilAndEmpty(t *testing.T) {
	for _, f := range []*nor.Flash{nil, new(nor.Flash)} {
		for _, sector := range append(strangers(3), 0, 1, 2, 63) {
			none(t, "no flash", f, sector, api.ErrRange)
		}
	}
}

func TestFlashesDontDependOnOneAnother(t *testing.T) {
	a, b := newFlash(t, small), newFlash(t, small)
	want(t, "Open", page.Open(a, 1, 5), api.OK)
	looks(t, b, 1, api.Sector{})
	want(t, "Void of the other one", page.Void(b, 1), api.OK)
	looks(t, a, 1, api.Sector{State: api.Used, Seq: 5})
}
