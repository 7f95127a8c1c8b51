package page_test

import (
	"bytes"
	"math"
	"testing"

	"carpetbag/api"
	"carpetbag/nor"
	"carpetbag/page"
)

// told is what a sector's bytes tell, as the chapter's words go.
func told(b []byte) api.Sector {
	if bytes.Equal(b, same(255, len(b))) {
		return api.Sector{State: api.Blank}
	}
	seq := uint32(b[2])<<24 | uint32(b[3])<<16 | uint32(b[4])<<8 | uint32(b[5])
	if bytes.Equal(b[:10], append(begun(seq), 0, 255)) {
		return api.Sector{State: api.Used, Seq: seq}
	}
	return api.Sector{State: api.Dirty}
}

// torn is what an act makes of bytes, wanting others, that goes down by a tear.
func torn(old, wanted []byte, tear api.Tear) []byte {
	k := max(tear.Keep, 0) % (len(wanted) + 1)
	b := append(append([]byte(nil), wanted[:k]...), old[k:]...)
	if k < len(wanted) {
		b[k] = old[k]&^tear.Mask | wanted[k]&tear.Mask
	}
	return b
}

// steps is what stands in a sector ahead of each act of an Open, and which bytes the act wants at its beginning or at place 8.
func steps(b []byte, seq uint32) (list []step) {
	if told(b).State == api.Dirty {
		list = append(list, step{b, 0, same(255, len(b))})
		b = same(255, len(b))
	}
	list = append(list, step{b, 0, begun(seq)})
	return append(list, step{padded(begun(seq), len(b)), 8, []byte{0}})
}

// step is an act.
type step struct {
	ahead  []byte
	at     int
	wanted []byte
}

// torn is what the step leaves that goes down by a tear.
func (s step) torn(tear api.Tear) []byte {
	b := append([]byte(nil), s.ahead...)
	copy(b[s.at:], torn(b[s.at:s.at+len(s.wanted)], s.wanted, tear))
	return b
}

// tears are the tears of an act of so many bytes: each mask where a header stands, a few elsewhere.
func tears(n int) (row []api.Tear) {
	for keep := range n + 1 {
		if keep <= page.HeadSize {
			for mask := range 256 {
				row = append(row, api.Tear{Keep: keep, Mask: byte(mask)})
			}
			continue
		}
		for _, mask := range []byte{0, 1, 0x5a, 0x80, 255} {
			row = append(row, api.Tear{Keep: keep, Mask: mask})
		}
	}
	for _, keep := range []int{-1, -9, math.MinInt, n + 1, n + 2, 2*n + 1, 2*n + 2, math.MaxInt} {
		row = append(row, api.Tear{Keep: keep, Mask: 0}, api.Tear{Keep: keep, Mask: 0x0f}, api.Tear{Keep: keep, Mask: 255})
	}
	return row
}

// unused are sectors of 64 bytes that aren't used, and whose byte 8 isn't 0, or byte 9 isn't 255.
func unused() [][]byte {
	near := header(8, 0, 0, 255, 255) // an erase may make it right
	near[0] = 0x42
	also := header(8, 1, 255, 255, 255)
	also[7] = 0
	row := [][]byte{nil, near, also, append(header(6, 0, 0, 255, 255), same(0, 52)...), header(6, 0, 0x7f, 0, 0)}
	d := dice(40)
	for range 12 {
		b := make([]byte, 64)
		for i := range b {
			b[i] = byte(d.below(256))
		}
		row = append(row, b)
	}
	list := [][]byte{}
	for _, b := range append(row, dirt()...) {
		if b = padded(b, 64); b[8] != 0 || b[9] != 255 {
			list = append(list, b)
		}
	}
	return list
}

// P4.2: at whatever act Open goes down, what stands there is what the acts ahead of it did, and that one in part: the sector isn't used, or it is, with that Seq.
func TestOpenThatGoesDown(t *testing.T) {
	const seq = 0x01020304
	for _, start := range unused() {
		for i, act := range steps(start, seq) {
			for _, tear := range tears(len(act.wanted)) {
				goesDown(t, start, seq, i, tear, act.torn(tear))
			}
		}
	}
}

// goesDown holds what an Open leaves whose act by that number goes down.
func goesDown(t *testing.T, start []byte, seq uint32, act int, tear api.Tear, wanted []byte) {
	t.Helper()
	f := newFlash(t, small)
	lay(t, f, 0, same(0x24, 64))
	lay(t, f, 1, start)
	f.Fuse(act, tear)
	want(t, "Open", page.Open(f, 1, seq), api.ErrDown)
	none(t, "behind it", f, 1, api.ErrDown)
	f.Reset()
	if b := has(t, f, 1); !bytes.Equal(b, wanted) {
		t.Fatalf("% x, act %d, %v: % x, not % x", start, act, tear, b, wanted)
	}
	if !bytes.Equal(has(t, f, 0), same(0x24, 64)) || !bytes.Equal(has(t, f, 2), same(255, 64)) {
		t.Fatalf("% x, act %d, %v: another sector changed", start, act, tear)
	}
	s, e := page.Look(f, 1)
	want(t, "Look", e, api.OK)
	if s.State == api.Used && s.Seq != seq || s.State != api.Used && s.Seq != 0 {
		t.Fatalf("% x, act %d, %v: %v", start, act, tear, s)
	}
	erases := f.Erases(1)
	if dirty := told(start).State == api.Dirty; erases != 0 && !dirty || erases != 1 && dirty {
		t.Fatalf("% x, act %d, %v: erased %d times", start, act, tear, erases)
	}
	wantedSector := told(wanted)
	wantedSector.Erases = erases
	looks(t, f, 1, wantedSector)
	opensAnew(t, f, s)
}

// opensAnew holds that a sector is opened behind an Open that went down, if it isn't used.
func opensAnew(t *testing.T, f *nor.Flash, s api.Sector) {
	t.Helper()
	switch s.State {
	case api.Used:
		want(t, "Open of what is used", page.Open(f, 1, 5), api.ErrBusy)
		return
	case api.Dirty:
		s.Erases++
	}
	want(t, "Open once more", page.Open(f, 1, 5), api.OK)
	looks(t, f, 1, api.Sector{State: api.Used, Seq: 5, Erases: s.Erases})
	if !bytes.Equal(has(t, f, 1), padded(header(5, 0, 255, 255, 255), 64)) {
		t.Fatalf("Open once more: % x", has(t, f, 1))
	}
}

// P4.2, of all numbers in the row: a header that was torn isn't another one's.
func TestOpenOfAllSeqsThatGoesDown(t *testing.T) {
	f := newFlash(t, api.Geometry{Sectors: 1, Size: 64, Limit: api.MaxLimit})
	for _, seq := range seqs() {
		for keep := range 9 {
			for _, mask := range []byte{0, 1, 0x0f, 0xf0, 0x7f, 0x80, 255} {
				for act := range 2 {
					want(t, "Erase", f.Erase(0), api.OK)
					f.Fuse(act, api.Tear{Keep: keep, Mask: mask})
					want(t, "Open", page.Open(f, 0, seq), api.ErrDown)
					f.Reset()
					s, e := page.Look(f, 0)
					want(t, "Look", e, api.OK)
					live := act == 1 && (keep%2 == 1 || mask == 255)
					if used := s.State == api.Used; used != live || used && s.Seq != seq {
						t.Fatalf("Seq %d, act %d, keep %d, mask %#x: %v", seq, act, keep, mask, s)
					}
				}
			}
		}
	}
}

// P4.3: what Void was told of isn't used, and is so behind an erase that was done in part, and behind two of them.
func TestVoidedIsntUsed(t *testing.T) {
	wrongMark := append(summed('C', 'C', 0, 0, 0, 8), 0, 255, 255, 255)
	starts := append(unused(), wrongMark, header(8, 0, 255, 255, 255), append(header(0, 0, 255, 255, 255), same(0, 52)...))
	f := newFlash(t, api.Geometry{Sectors: 3, Size: 64, Limit: api.MaxLimit})
	for _, start := range starts {
		for i, tear := range tears(64) {
			f.Reset()
			want(t, "Erase", f.Erase(1), api.OK)
			lay(t, f, 1, start)
			want(t, "Void", page.Void(f, 1), api.OK)
			isntUsed(t, f, "void", tear)
			want(t, "Void once more", page.Void(f, 1), api.OK)
			isntUsed(t, f, "void twice", tear)
			f.Fuse(0, tear)
			want(t, "Erase", f.Erase(1), api.ErrDown)
			f.Reset()
			isntUsed(t, f, "erased in part", tear)
			f.Fuse(0, api.Tear{Keep: (7 * i) % 64, Mask: byte(37 * i)})
			want(t, "Erase", f.Erase(1), api.ErrDown)
			f.Reset()
			isntUsed(t, f, "erased in part twice", tear)
		}
	}
}

// isntUsed holds that a sector isn't used, and what Look tells is so.
func isntUsed(t *testing.T, f *nor.Flash, what string, tear api.Tear) {
	t.Helper()
	b := has(t, f, 1)
	s, e := page.Look(f, 1)
	want(t, "Look", e, api.OK)
	if s.State == api.Used || s.Seq != 0 || s.State != told(b).State || s.Erases != f.Erases(1) {
		t.Fatalf("%s, %v: %v of % x", what, tear, s, b)
	}
}

// twin is a flash on which the acts are done that the chapter names, one by one.
type twin struct{ *nor.Flash }

func (w twin) sector(sector int) []byte {
	b, _ := w.Read(sector*small.Size, small.Size)
	return b
}

// acts does acts up to the first error.
func acts(list ...func() api.Errno) api.Errno {
	for _, act := range list {
		if e := act(); e != api.OK {
			return e
		}
	}
	return api.OK
}

func (w twin) open(sector int, seq uint32) api.Errno {
	if sector < 0 || sector >= small.Sectors {
		return api.ErrRange
	}
	if _, e := w.Read(0, 0); e != api.OK {
		return e
	}
	erase := func() api.Errno { return w.Erase(sector) }
	begin := func() api.Errno { return w.Program(64*sector, begun(seq)) }
	live := func() api.Errno { return w.Program(64*sector+8, []byte{0}) }
	switch told(w.sector(sector)).State {
	case api.Used:
		return api.ErrBusy
	case api.Dirty:
		return acts(erase, begin, live)
	}
	return acts(begin, live)
}

func (w twin) void(sector int) api.Errno {
	if sector < 0 || sector >= small.Sectors {
		return api.ErrRange
	}
	return w.Program(64*sector+9, []byte{0})
}

// P4.1 to P4.3, step by step: a flash has what its twin has; what isn't used is as P4.2 asks for; what is used has a Seq that Open was told of, and no void on it.
func TestAgainstTwin(t *testing.T) {
	limited := api.Geometry{Sectors: small.Sectors, Size: small.Size, Limit: 30}
	for seed := range dice(60) {
		d := seed
		f, w := newFlash(t, limited), twin{newFlash(t, limited)}
		var opening [3]uint32 // what Open was told of last
		var void [3]bool      // Void was told of with OK, and nothing was opened since
		for i := range 600 {
			sector, seq := d.below(small.Sectors+2)-1, d.next()
			there := 0 <= sector && sector < small.Sectors
			var got, wanted api.Errno
			switch d.below(7) {
			case 0, 1:
				if s, e := page.Look(f, sector); there && e == api.OK && s.State != api.Used {
					opening[sector], void[sector] = seq, false
				}
				got, wanted = page.Open(f, sector, seq), w.open(sector, seq)
			case 2:
				got, wanted = page.Void(f, sector), w.void(sector)
				if there && got == api.OK {
					void[sector] = true
				}
			case 3:
				if !there || d.below(2) == 0 || told(w.sector(sector)).State == api.Used {
					continue
				}
				got, wanted = f.Erase(sector), w.Erase(sector)
			case 4:
				n, tear := d.below(4), api.Tear{Keep: d.below(80) - 8, Mask: byte(d.below(256))}
				f.Fuse(n, tear)
				w.Fuse(n, tear)
			default:
				f.Reset()
				w.Reset()
			}
			if got != wanted {
				t.Fatalf("seed %d, step %d: %d, not %d", seed, i, got, wanted)
			}
			likeTwin(t, f, w, opening, void)
		}
	}
}

// likeTwin holds a flash against its twin.
func likeTwin(t *testing.T, f *nor.Flash, w twin, opening [3]uint32, void [3]bool) {
	t.Helper()
	for sector := range small.Sectors {
		s, e := page.Look(f, sector)
		if _, down := w.Read(0, 0); e != down {
			t.Fatalf("Look(%d): %d, not %d", sector, e, down)
		}
		if e != api.OK {
			continue
		}
		b := w.sector(sector)
		wanted := told(b)
		wanted.Erases = w.Erases(sector)
		if s != wanted || !bytes.Equal(has(t, f, sector), b) {
			t.Fatalf("Look(%d): %v of % x, not %v of % x", sector, s, has(t, f, sector), wanted, b)
		}
		if s.State != api.Used && b[8] == 0 && b[9] == 255 {
			t.Fatalf("sector %d isn't used, but: % x", sector, b)
		}
		if s.State == api.Used && (s.Seq != opening[sector] || void[sector]) {
			t.Fatalf("sector %d is used, Seq %d: opened with %d, void %v", sector, s.Seq, opening[sector], void[sector])
		}
	}
}
