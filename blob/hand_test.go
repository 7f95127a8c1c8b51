package blob_test

import (
	"fmt"
	"math/rand/v2"
	"slices"
	"strings"
	"testing"

	"carpetbag/api"
	"carpetbag/nor"
	"carpetbag/page"
	"carpetbag/rec"
)

// maxTxn is the greatest Txn of a head that isn't closed.
const maxTxn = 1<<32 - 65537

// Sectors tell in the order of Seq, wherever they stand; of one Seq by their places.
func TestOrderOfSectors(t *testing.T) {
	f := flash(t, 8, 256, 10)
	hand(t, f, 3, 1, putRec(1, "a", "1"), putRec(1, "b", "1"), commitRec(1, 2), putRec(2, "c", "1"), commitRec(2, 1))
	hand(t, f, 1, 7, putRec(1, "a", "2"), delRec(1, "c"), commitRec(1, 2))
	hand(t, f, 5, 9, delRec(9, "b"), commitRec(9, 1), putRec(4, "d", "1"), commitRec(4, 1))
	hand(t, f, 4, 9, putRec(9, "b", "2"), commitRec(9, 1), putRec(10, "d", "2"), commitRec(10, 1))
	m := model{"a": "2", "d": "1"}
	s := mount(t, f)
	check(t, s, m)
	// The head is the last of these two, so a Txn is one more than its greatest.
	commit(t, s, put("e", "1"))
	l, _, closed := found(t, f, 5)
	if len(l) != 6 || closed || l[4].Rec.Txn != 10 || l[5].Rec.Txn != 10 {
		t.Errorf("the head has %v", l)
	}
	checkMount(t, f, m.behind([]api.Change{put("e", "1")}))
}

// What doesn't count: commits laid in part, in one sector, or in two.
func TestWhatCounts(t *testing.T) {
	for _, c := range []struct {
		what string
		l    []api.Rec
		want model
	}{
		{"nothing", nil, model{}},
		{"a put without a commit", []api.Rec{putRec(1, "a", "1")}, model{}},
		{"a commit of more", []api.Rec{putRec(1, "a", "1"), commitRec(1, 2)}, model{}},
		{"a commit of fewer", []api.Rec{putRec(1, "a", "1"), putRec(1, "b", "1"), commitRec(1, 1)}, model{}},
		{"a commit of another Txn", []api.Rec{putRec(1, "a", "1"), commitRec(2, 1)}, model{}},
		{"a commit ahead", []api.Rec{commitRec(1, 1), putRec(1, "a", "1")}, model{}},
		{"a commit of nothing", []api.Rec{commitRec(1, 0)}, model{}},
		{"a delete without a commit", []api.Rec{putRec(1, "a", "1"), commitRec(1, 1), delRec(2, "a")}, model{"a": "1"}},
		{"a delete that counts", []api.Rec{putRec(1, "a", "1"), commitRec(1, 1), delRec(2, "a"), commitRec(2, 1)}, model{}},
		{"two of one key in one commit", []api.Rec{putRec(1, "a", "1"), putRec(1, "a", "2"), commitRec(1, 2)}, model{"a": "2"}},
		{"a put and a delete in one commit", []api.Rec{putRec(1, "a", "1"), delRec(1, "a"), commitRec(1, 2)}, model{}},
		{"Txns one within the other", []api.Rec{putRec(7, "a", "1"), putRec(3, "a", "2"), commitRec(7, 1), commitRec(3, 1)}, model{"a": "2"}},
	} {
		f := flash(t, 4, 256, 10)
		hand(t, f, 2, 5, c.l...)
		s := mount(t, f)
		check(t, s, c.want)
		var last uint32
		for _, r := range c.l {
			last = max(last, r.Txn)
		}
		// A Txn is one more than the greatest one, of those that don't count, too: else the parts would count with the next commit.
		commit(t, s, put("q", "1"))
		l, _, _ := found(t, f, 2)
		if n := len(c.l); len(l) != n+2 || l[n].Rec.Txn != last+1 || l[n+1].Rec.Txn != last+1 {
			t.Errorf("%s: the head has %v", c.what, l)
		}
		checkMount(t, f, c.want.behind([]api.Change{put("q", "1")}))
	}
	f := flash(t, 4, 256, 10)
	hand(t, f, 0, 1, putRec(1, "a", "1"))
	hand(t, f, 1, 2, commitRec(1, 1))
	checkMount(t, f, model{})
}

// A put without its commit in the old head doesn't count by a commit that is laid in another sector.
func TestPartOfACommitLeftBehind(t *testing.T) {
	f := flash(t, 4, 256, 10)
	hand(t, f, 0, 1, putRec(1, "a", strings.Repeat("x", 200)))
	s := mount(t, f)
	commit(t, s, put("b", "1"))
	checkMount(t, f, model{"b": "1"})
	if l := looks(t, f); l[1] != (api.Sector{State: api.Used, Seq: 2}) || l[2].State != api.Blank {
		t.Errorf("%v", l)
	}
}

// The bytes that close a head: the next commit stands in a sector that is opened.
func TestClosedHead(t *testing.T) {
	b, _ := rec.Bytes(putRec(2, "b", "22"))
	cut := func(n int) []byte { return b[:n:n] }
	for what, c := range map[string]struct {
		tail []byte
		open bool
	}{
		"nothing":                                   {nil, true},
		"255 alone":                                 {[]byte{255, 255}, true},
		"a byte":                                    {[]byte{1}, false},
		"a byte of 254":                             {[]byte{254}, false},
		"a record torn in its header":               {cut(5), false},
		"a record torn in its key":                  {cut(11), false},
		"a record torn in its blob":                 {cut(13), false},
		"a record without the last":                 {cut(len(b)), false},
		"a record with half of it":                  {append(cut(len(b)), 0x0f), false},
		"a record and a byte":                       {append(cut(len(b)), 0, 7), false},
		"one that isn't whole ahead of one that is": {slices.Concat(b, []byte{255}, b, []byte{0}), false},
	} {
		f := flash(t, 4, 256, 10)
		hand(t, f, 1, 3, putRec(1, "a", "1"), commitRec(1, 1))
		program(t, f, 1, 12+18+16, c.tail...)
		s := mount(t, f)
		check(t, s, model{"a": "1"})
		commit(t, s, put("c", "1"))
		m := model{"a": "1", "c": "1"}
		check(t, s, m)
		checkMount(t, f, m)
		if got := looks(t, f)[0] == (api.Sector{}); got != c.open {
			t.Errorf("%s: %v", what, looks(t, f))
		}
		if !c.open && looks(t, f)[0] != (api.Sector{State: api.Used, Seq: 4}) {
			t.Errorf("%s: %v", what, looks(t, f))
		}
	}
}

// What counts in a closed sector counts, also behind the record that isn't whole.
func TestBehindWhatIsNotWhole(t *testing.T) {
	f := flash(t, 4, 256, 10)
	hand(t, f, 0, 1, putRec(1, "a", "1"), commitRec(1, 1))
	b, _ := rec.Bytes(putRec(2, "b", "2"))
	program(t, f, 0, 46, b...)
	at := 46 + len(b) + 1
	at += lay(t, f, 0, at, putRec(2, "c", "3"))
	lay(t, f, 0, at, commitRec(2, 1))
	checkMount(t, f, model{"a": "1", "c": "3"})
}

// A head's room: a commit that needs just what is left stands in it, one that needs a byte more in another sector.
func TestFullHead(t *testing.T) {
	const left = 256 - 12 - 18 - 16 // behind a commit of "a" and one byte
	for n := range 60 {
		s, f := store(t, 4, 256)
		commit(t, s, put("a", "1"))
		commit(t, s, put("b", strings.Repeat("x", left-90-33)))
		commit(t, s, put("c", strings.Repeat("y", n))) // 90 bytes are left
		want := []api.Sector{{State: api.Used, Seq: 1}, {}, {}, {}}
		if 33+n > 90 {
			want[1] = api.Sector{State: api.Used, Seq: 2}
		}
		if got := s.Sectors(); !slices.Equal(got, want) {
			t.Fatalf("a blob of %d bytes: %v", n, got)
		}
		checkMount(t, f, model{"a": "1", "b": strings.Repeat("x", left-90-33), "c": strings.Repeat("y", n)})
	}
}

// A head with a Txn that is too great is closed; one with the greatest that may be takes one more commit.
func TestGreatTxns(t *testing.T) {
	for _, txn := range []uint32{1, 1 << 31, maxTxn - 1, maxTxn, maxTxn + 1, 1<<32 - 2, 1<<32 - 1} {
		for _, counts := range []bool{true, false} {
			f := flash(t, 5, 256, 10)
			l, m := []api.Rec{putRec(txn, "a", "1"), commitRec(txn, 1)}, model{"a": "1"}
			if !counts {
				l, m = l[:1], model{}
			}
			hand(t, f, 3, 8, l...)
			s := mount(t, f)
			check(t, s, m)
			for i := range 3 {
				c := put("b", fmt.Sprint(i))
				commit(t, s, c)
				m = m.behind([]api.Change{c})
				check(t, s, m)
				next := mount(t, f)
				check(t, next, m)
				inHead := int64(txn)+int64(i) <= maxTxn
				if got := looks(t, f)[0].State == api.Blank; got != inHead {
					t.Fatalf("Txn %d, commit %d: %v", txn, i, looks(t, f))
				}
				// The store that goes on, and one that is mounted each time, go on alike.
				if i == 0 {
					s = next
				}
			}
		}
	}
}

// Behind a Seq of 2^32 - 1 nothing is opened: what has no room in the head is refused, and nothing is done.
func TestGreatestSeq(t *testing.T) {
	for _, seq := range []uint32{1<<32 - 3, 1<<32 - 2, 1<<32 - 1} {
		f := flash(t, 6, 256, 10)
		hand(t, f, 2, seq, putRec(1, "a", "1"), commitRec(1, 1))
		s, m := mount(t, f), model{"a": "1"}
		// Two commits of 88 bytes go into a sector, and a delete.
		fit := 2 + 2*int(1<<32-1-int64(seq))
		for i := range fit + 3 {
			c := put("b", strings.Repeat(fmt.Sprint(i), 55))
			before := twin(t, f)
			e := s.Commit([]api.Change{c})
			if i < fit {
				if e != api.OK {
					t.Fatalf("Seq %d, commit %d: %d", seq, i, e)
				}
				m = m.behind([]api.Change{c})
			} else if e != api.ErrSpace || !sameFlash(t, f, before) {
				t.Fatalf("Seq %d, commit %d: %d", seq, i, e)
			}
			check(t, s, m)
			checkMount(t, f, m)
		}
		// What still has room goes.
		commit(t, s, del("a"))
		checkMount(t, f, m.behind([]api.Change{del("a")}))
		if s.Down() {
			t.Error("the store is down")
		}
	}
}

// An old sector's Seq doesn't count: only used ones do.
func TestSeqOfUsedOnes(t *testing.T) {
	f := flash(t, 4, 256, 10)
	hand(t, f, 1, 1<<32-1, putRec(1, "a", "1"), commitRec(1, 1))
	page.Void(f, 1)
	hand(t, f, 2, 41, putRec(1, "b", strings.Repeat("1", 190)), commitRec(1, 1))
	s := mount(t, f)
	check(t, s, model{"b": strings.Repeat("1", 190)})
	commit(t, s, put("c", ""))
	if got := looks(t, f)[0]; got != (api.Sector{State: api.Used, Seq: 42}) {
		t.Errorf("%v", got)
	}
}

// full writes a sector by hand that has no room for 100 bytes more: a key and a blob of about so many bytes.
func full(t *testing.T, f *nor.Flash, sector int, seq uint32, key string) {
	t.Helper()
	hand(t, f, sector, seq, putRec(1, key, strings.Repeat(key, 180)), commitRec(1, 1))
}

// Mount with no sector that can be opened: the newest one is let go if without it the same is told.
func TestMountLetsGo(t *testing.T) {
	for what, c := range map[string]struct {
		last []api.Rec
		gone bool
	}{
		"nothing":                     {nil, true},
		"the same blob":               {[]api.Rec{putRec(1, "a", "1"), commitRec(1, 1)}, true},
		"the same blobs":              {[]api.Rec{putRec(1, "a", "1"), commitRec(1, 1), putRec(2, "b", "2"), commitRec(2, 1)}, true},
		"a put that doesn't count":    {[]api.Rec{putRec(1, "a", "3")}, true},
		"a delete of nothing":         {[]api.Rec{delRec(1, "c"), commitRec(1, 1)}, true},
		"there and back":              {[]api.Rec{putRec(1, "a", "3"), commitRec(1, 1), putRec(2, "a", "1"), commitRec(2, 1)}, true},
		"a key that comes and goes":   {[]api.Rec{putRec(1, "c", "3"), commitRec(1, 1), delRec(2, "c"), commitRec(2, 1)}, true},
		"another blob":                {[]api.Rec{putRec(1, "a", "3"), commitRec(1, 1)}, false},
		"an empty blob":               {[]api.Rec{putRec(1, "a", ""), commitRec(1, 1)}, false},
		"another key":                 {[]api.Rec{putRec(1, "c", ""), commitRec(1, 1)}, false},
		"a delete":                    {[]api.Rec{delRec(1, "a"), commitRec(1, 1)}, false},
		"a delete, and another key":   {[]api.Rec{delRec(1, "a"), putRec(1, "c", "1"), commitRec(1, 2)}, false},
		"the same blob, and another":  {[]api.Rec{putRec(1, "a", "1"), putRec(1, "b", "3"), commitRec(1, 2)}, false},
		"the blob of a key that went": {[]api.Rec{putRec(1, "z", "1"), commitRec(1, 1)}, false},
	} {
		f := flash(t, 3, 256, 10)
		hand(t, f, 1, 4, putRec(1, "a", "1"), putRec(1, "z", "1"), commitRec(1, 2))
		hand(t, f, 2, 5, putRec(1, "b", "2"), delRec(1, "z"), commitRec(1, 2))
		hand(t, f, 0, 9, c.last...)
		m := model{"a": "1", "b": "2"}
		if !c.gone {
			m = model{}
			for _, txn := range []uint32{1, 2} {
				m = m.behind([]api.Change{put("a", "1"), put("b", "2")})
				for _, r := range c.last {
					if r.Txn == txn && r.Kind != api.RecCommit {
						m = m.behind([]api.Change{{Del: r.Kind == api.RecDel, Key: r.Key, Blob: r.Blob}})
					}
				}
				if len(c.last) < 4 {
					break
				}
			}
		}
		want := api.Sector{State: api.Used, Seq: 9}
		if c.gone {
			want = api.Sector{State: api.Blank, Erases: 1}
		}
		s := mount(t, f)
		if got := looks(t, f)[0]; got != want {
			t.Errorf("%s: %v, want %v", what, got, want)
		}
		check(t, s, m)
		checkMount(t, f, m)
		// The head is the last one that is left.
		at := 2
		if !c.gone {
			at = 0
		}
		before, _, _ := found(t, f, at)
		commit(t, s, put("new", "1"))
		if after, _, _ := found(t, f, at); len(after) != len(before)+2 {
			t.Errorf("%s: the commit isn't in the head", what)
		}
		checkMount(t, f, m.behind([]api.Change{put("new", "1")}))
	}
}

// No sector is let go if one can be opened, or if only one is used.
func TestMountKeeps(t *testing.T) {
	f := flash(t, 3, 256, 10)
	full(t, f, 0, 1, "a")
	full(t, f, 1, 2, "a")
	before := twin(t, f)
	mount(t, f)
	if !sameFlash(t, f, before) {
		t.Error("a sector was let go, though one is blank")
	}
	program(t, f, 2, 0, 0)
	before = twin(t, f)
	mount(t, f)
	if !sameFlash(t, f, before) {
		t.Error("a sector was let go, though a dirty one can be opened")
	}
	one := flash(t, 1, 256, 10)
	hand(t, one, 0, 1)
	before = twin(t, one)
	mount(t, one)
	if !sameFlash(t, one, before) {
		t.Error("the only sector was let go")
	}
}

// wearOut erases a sector as often as goes.
func wearOut(f *nor.Flash, sector int) {
	for f.Erase(sector) == api.OK {
	}
}

// Sectors that were erased Limit times: dirty ones can't be opened; one that is let go stays void.
func TestMountOfWornSectors(t *testing.T) {
	f := flash(t, 4, 256, 2)
	for i := range 4 {
		wearOut(f, i)
	}
	full(t, f, 0, 1, "a")
	full(t, f, 1, 2, "b")
	full(t, f, 2, 3, "a")
	program(t, f, 3, 100, 0)
	m := model{"a": strings.Repeat("a", 180), "b": strings.Repeat("b", 180)}
	check(t, mount(t, f), m)
	want := []api.Sector{{State: api.Used, Seq: 1, Erases: 2}, {State: api.Used, Seq: 2, Erases: 2}, {State: api.Dirty, Erases: 2}, {State: api.Dirty, Erases: 2}}
	if got := looks(t, f); !slices.Equal(got, want) {
		t.Fatalf("%v", got)
	}
	if b := all(t, f)[2*256+9]; b != 0 {
		t.Errorf("the one that was let go isn't void: %d", b)
	}
	check(t, mount(t, f), m)
	if got := looks(t, f); !slices.Equal(got, want) {
		t.Errorf("%v", got)
	}
}

// A flash with no sector that can be opened, and none that may go: what has room in the head is done, the rest is refused.
func TestNothingToOpen(t *testing.T) {
	f := flash(t, 3, 256, 10)
	full(t, f, 0, 1, "a")
	full(t, f, 1, 2, "b")
	hand(t, f, 2, 3, putRec(1, "c", strings.Repeat("c", 100)), commitRec(1, 1))
	m := model{"a": strings.Repeat("a", 180), "b": strings.Repeat("b", 180), "c": strings.Repeat("c", 100)}
	s := mount(t, f)
	check(t, s, m)
	l := []api.Change{put("d", strings.Repeat("d", 244-133-33))}
	commit(t, s, l...)
	m = m.behind(l)
	before := twin(t, f)
	for _, c := range []api.Change{del("a"), put("e", ""), put("c", "")} {
		if e := s.Commit([]api.Change{c}); e != api.ErrSpace {
			t.Errorf("%v: %d", c, e)
		}
	}
	if !sameFlash(t, f, before) {
		t.Error("what was refused changed the flash")
	}
	check(t, s, m)
	checkMount(t, f, m)
}

// With none to open the oldest sectors are cleaned into the head, as long as it has room; then one is opened.
func TestCleaningIntoTheHead(t *testing.T) {
	f := flash(t, 3, 256, 10)
	hand(t, f, 0, 1, putRec(1, "a", "1"), putRec(1, "b", strings.Repeat("x", 100)), commitRec(1, 2))
	full(t, f, 1, 2, "c")
	hand(t, f, 2, 3, putRec(1, "b", "2"), putRec(1, "c", strings.Repeat("c", 100)), commitRec(1, 2))
	s := mount(t, f)
	m := model{"a": "1", "b": "2", "c": strings.Repeat("c", 100)}
	check(t, s, m)
	l := []api.Change{put("d", strings.Repeat("d", 89))}
	commit(t, s, l...)
	m = m.behind(l)
	check(t, s, m)
	checkMount(t, f, m)
	want := []api.Sector{{State: api.Used, Seq: 4, Erases: 1}, {State: api.Blank, Erases: 1}, {State: api.Used, Seq: 3}}
	if got := s.Sectors(); !slices.Equal(got, want) {
		t.Errorf("%v, want %v", got, want)
	}
	got, _, _ := found(t, f, 2)
	if len(got) != 5 || got[3].Rec.Key != "a" || got[3].Rec.Txn != 2 || got[4].Rec.Txn != 2 || got[4].Rec.Count != 1 {
		t.Errorf("the old head has %v", got)
	}
	if got, _, _ := found(t, f, 0); len(got) != 2 || got[0].Rec.Key != "d" || got[0].Rec.Txn != 1 || got[1].Rec.Txn != 1 {
		t.Errorf("the new head has %v", got)
	}
}

// Bytes of any kind: Mount tells something, and what is done to it then is there behind it.
func TestAnyBytes(t *testing.T) {
	r := rand.New(rand.NewPCG(8, 1))
	for range 3000 {
		f := flash(t, 1+r.IntN(5), 64+r.IntN(200), 3)
		g := f.Geometry()
		for i := range g.Sectors {
			for range r.IntN(4) {
				f.Erase(i)
			}
			anySector(r, f, i)
		}
		s := mount(t, f)
		m := content(s)
		checkMount(t, f, m)
		s = mount(t, f)
		for range 12 {
			l := []api.Change{{Del: r.IntN(3) == 0, Key: string(rune('a' + r.IntN(4))), Blob: make([]byte, r.IntN(g.Size/2))}}
			before := twin(t, f)
			switch e := s.Commit(l); e {
			case api.OK:
				m = m.behind(l)
			case api.ErrSpace, api.ErrLong:
				if !sameFlash(t, f, before) {
					t.Fatalf("%d, and the flash was changed", e)
				}
			default:
				t.Fatalf("Commit: %d", e)
			}
			check(t, s, m)
		}
		checkMount(t, f, m)
	}
}

// anySector fills a sector with something: nothing, any bytes, or a header and records, some of them spoilt.
func anySector(r *rand.Rand, f *nor.Flash, sector int) {
	size := f.Geometry().Size
	b := slices.Repeat([]byte{255}, size)
	switch r.IntN(6) {
	case 0:
	case 1:
		for i := range b {
			b[i] = byte(r.Uint32())
		}
	default:
		b = append(page.Bytes(anyNumber(r)), 0, 255, 255, 255)
		for len(b) < size {
			x, _ := rec.Bytes(anyRecord(r))
			b = append(append(b, x...), 0)
		}
		b = b[:size:size]
		for i := range b[page.HeadSize+r.IntN(size-page.HeadSize):] {
			b[size-1-i] = 255
		}
		for range r.IntN(3) {
			b[r.IntN(size)] &= byte(r.Uint32())
		}
	}
	f.Program(sector*size, b)
}

// anyNumber is a small number, mostly, or one of the greatest.
func anyNumber(r *rand.Rand) uint32 {
	switch r.IntN(8) {
	case 0:
		return -uint32(1 + r.IntN(2))
	case 1:
		return maxTxn - 2 + uint32(r.IntN(5))
	}
	return uint32(1 + r.IntN(4))
}

func anyRecord(r *rand.Rand) api.Rec {
	key := string(rune('a' + r.IntN(4)))
	switch r.IntN(5) {
	case 0:
		return delRec(anyNumber(r), key)
	case 1, 2:
		return putRec(anyNumber(r), key, strings.Repeat("x", r.IntN(30)))
	}
	return commitRec(anyNumber(r), 1+r.IntN(2))
}

// A mounted store is its own: two Mounts of one flash tell the same.
func TestMountTwice(t *testing.T) {
	s, f := store(t, 4, 256)
	commit(t, s, put("a", "1"))
	a, b := mount(t, f), mount(t, f)
	commit(t, a, put("b", "2"))
	check(t, a, model{"a": "1", "b": "2"})
	check(t, b, model{"a": "1"})
}
