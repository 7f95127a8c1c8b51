package blob_test

import (
	"bytes"
	"fmt"
	"maps"
	"slices"
	"strings"
	"testing"

	"carpetbag/api"
	"carpetbag/blob"
	"carpetbag/nor"
)

// The chapter's example: a flash that was erased has no keys.
func TestErasedFlash(t *testing.T) {
	f := flash(t, 4, 256, 10)
	for i := range 4 {
		f.Erase(i)
	}
	s := mount(t, f)
	check(t, s, model{})
	if s.Down() {
		t.Error("a new store is down")
	}
	for i, x := range s.Sectors() {
		if x != (api.Sector{Erases: 1}) {
			t.Errorf("sector %d is %v", i, x)
		}
	}
}

// The document's example: a store with the key "a", two bytes, has Live 35.
func TestLiveExample(t *testing.T) {
	s, _ := store(t, 4, 256)
	commit(t, s, put("a", "xy"))
	if s.Live() != 35 {
		t.Errorf("Live is %d", s.Live())
	}
}

func TestNilFlash(t *testing.T) {
	if s, e := blob.Mount(nil); s != nil || e != api.ErrArg {
		t.Errorf("Mount(nil): %v, %d", s, e)
	}
}

func TestDownFlash(t *testing.T) {
	f := flash(t, 4, 256, 10)
	f.Fuse(0, api.Tear{})
	f.Erase(0)
	if s, e := blob.Mount(f); s != nil || e != api.ErrDown {
		t.Errorf("Mount: %v, %d", s, e)
	}
	f.Reset()
	mount(t, f)
}

// A flash without a geometry has no sectors: what is mounted takes nothing.
func TestNoFlash(t *testing.T) {
	s, e := blob.Mount(&nor.Flash{})
	if s == nil && e == api.OK || s != nil && e != api.OK {
		t.Fatalf("Mount: %v, %d", s, e)
	}
	if e := s.Commit([]api.Change{put("a", "")}); e == api.OK {
		t.Error("a flash without a sector took a commit")
	}
}

func TestNilStore(t *testing.T) {
	for _, s := range []*blob.Store{nil, {}} {
		if !s.Down() || s.Live() != 0 || s.Room() != 0 || len(s.Sectors()) != 0 {
			t.Errorf("%v: %v, %d, %d, %v", s, s.Down(), s.Live(), s.Room(), s.Sectors())
		}
		if b, ok := s.Get("a"); b != nil || ok {
			t.Errorf("Get: %q, %v", b, ok)
		}
		if k := s.Keys(""); len(k) != 0 {
			t.Errorf("Keys: %q", k)
		}
		for _, l := range [][]api.Change{nil, {put("a", "")}, {put("", "")}} {
			if e := s.Commit(l); e != api.ErrDown {
				t.Errorf("Commit(%v): %d", l, e)
			}
		}
	}
}

func TestGetAndKeys(t *testing.T) {
	s, f := store(t, 4, 512)
	m := model{}
	for _, l := range [][]api.Change{
		{put("b", "1"), put("ba", ""), put("a", "2")},
		{put("\xff", "3"), put("\x00", "4"), put("B", "5")},
		{del("ba"), put("b", "6"), put("c", "7")},
		{del("nothing")},
		{put("ba", "8"), del("c")},
		{put("a", "")},
	} {
		commit(t, s, l...)
		m = m.behind(l)
		check(t, s, m)
		checkMount(t, f, m)
	}
	if got, want := s.Keys(""), []string{"\x00", "B", "a", "b", "ba", "\xff"}; !slices.Equal(got, want) {
		t.Errorf("Keys: %q", got)
	}
	if got, want := s.Keys("b"), []string{"b", "ba"}; !slices.Equal(got, want) {
		t.Errorf("Keys(b): %q", got)
	}
	for _, prefix := range []string{"bab", "z", "\xff\xff"} {
		if got := s.Keys(prefix); len(got) != 0 {
			t.Errorf("Keys(%q): %q", prefix, got)
		}
	}
	if b, ok := s.Get("a"); len(b) != 0 || !ok {
		t.Errorf("an empty blob: %q, %v", b, ok)
	}
	for _, key := range []string{"", "c", "A", "aa", strings.Repeat("x", 100)} {
		if b, ok := s.Get(key); b != nil || ok {
			t.Errorf("Get(%q): %q, %v", key, b, ok)
		}
	}
}

// many are puts of so many keys.
func many(n int) []api.Change {
	var l []api.Change
	for i := range n {
		l = append(l, put(string(rune('a'+i)), ""))
	}
	return l
}

// What is refused, in the order of the errors: sectors have 256 - 12 bytes behind the header, so a commit may have 122.
func TestRefusals(t *testing.T) {
	long, tooLong := strings.Repeat("k", api.MaxKey), strings.Repeat("k", api.MaxKey+1)
	big, tooBig := strings.Repeat("b", api.MaxBlob), strings.Repeat("b", api.MaxBlob+1)
	for _, c := range []struct {
		what string
		l    []api.Change
		want api.Errno
	}{
		{"nothing", nil, api.ErrArg},
		{"nothing", []api.Change{}, api.ErrArg},
		{"an empty key", []api.Change{put("", "")}, api.ErrArg},
		{"a delete of an empty key", []api.Change{del("")}, api.ErrArg},
		{"a key that is too long", []api.Change{put(tooLong, "")}, api.ErrArg},
		{"a delete of one", []api.Change{del(tooLong)}, api.ErrArg},
		{"a blob that is too long", []api.Change{put("a", tooBig)}, api.ErrArg},
		{"the second one may be no record", []api.Change{put("a", ""), put("", "")}, api.ErrArg},
		{"too many changes", many(api.MaxChanges + 1), api.ErrArg},
		{"too many changes, of one key", slices.Repeat(many(1), api.MaxChanges+1), api.ErrArg},
		{"two of a key that may not be", []api.Change{put("", ""), put("", "")}, api.ErrArg},
		{"one may be no record, two have one key", []api.Change{put("a", ""), put("a", ""), put("b", tooBig)}, api.ErrArg},
		{"one may be no record, the room is too much", []api.Change{put("a", big), put("b", tooBig)}, api.ErrArg},
		{"two puts of one key", []api.Change{put("a", "x"), put("a", "y")}, api.ErrExists},
		{"two deletes of one key", []api.Change{del("a"), put("b", ""), del("a")}, api.ErrExists},
		{"a put and a delete of one key", []api.Change{put("a", "x"), del("a")}, api.ErrExists},
		{"a delete and a put of one key", []api.Change{del("a"), put("a", "x")}, api.ErrExists},
		{"two have one key, the room is too much", []api.Change{put("a", big), put("a", big)}, api.ErrExists},
		{"as many changes as there may be: 16 and 16 times 17", many(api.MaxChanges), api.ErrLong},
		{"the longest blob", []api.Change{put("a", big)}, api.ErrLong},
		{"just half of the bytes", []api.Change{put("a", strings.Repeat("b", 122-16-17))}, api.OK},
		{"one byte more", []api.Change{put("a", strings.Repeat("b", 122-16-16))}, api.ErrLong},
		{"one byte less", []api.Change{put("a", strings.Repeat("b", 122-16-18))}, api.OK},
		{"the longest key", []api.Change{put(long, "")}, api.OK},
		{"a delete's blob counts for nothing", []api.Change{{Del: true, Key: "a", Blob: []byte(tooBig)}}, api.OK},
		{"a delete's blob counts for nothing", []api.Change{{Del: true, Key: "a", Blob: []byte(big)}, put("b", "x")}, api.OK},
	} {
		s, f := store(t, 4, 256)
		commit(t, s, put("a", "here"), put("q", ""))
		before, m := twin(t, f), model{"a": "here", "q": ""}
		if e := s.Commit(c.l); e != c.want {
			t.Errorf("%s: %d, want %d", c.what, e, c.want)
		}
		if s.Down() {
			t.Errorf("%s: the store is down", c.what)
		}
		if c.want == api.OK {
			m = m.behind(c.l)
		} else if !sameFlash(t, f, before) {
			t.Errorf("%s was refused, and changed the flash", c.what)
		}
		check(t, s, m)
		checkMount(t, f, m)
	}
}

// As many changes as there may be, where there is room for them.
func TestMostChanges(t *testing.T) {
	s, f := store(t, 3, 2*(16+16*17)+12)
	commit(t, s, many(api.MaxChanges)...)
	check(t, s, model{}.behind(many(api.MaxChanges)))
	checkMount(t, f, model{}.behind(many(api.MaxChanges)))
	if e := s.Commit(many(api.MaxChanges + 1)); e != api.ErrArg {
		t.Errorf("one more: %d", e)
	}
	var l []api.Change
	for _, c := range many(api.MaxChanges) {
		l = append(l, del(c.Key))
	}
	commit(t, s, l...)
	check(t, s, model{})
	checkMount(t, f, model{})
}

// A commit's room is at most half of a sector's bytes, be their number odd or even; the least sector that takes one has 78 bytes.
func TestHalfOfASector(t *testing.T) {
	for size := api.MinSector; size < 140; size++ {
		s, f := store(t, 3, size)
		for n := range 100 {
			l, want := []api.Change{put("a", strings.Repeat("b", n))}, api.OK
			if 2*(16+17+n) > size-12 {
				want = api.ErrLong
			}
			if e := s.Commit(l); e != want {
				t.Fatalf("size %d, a blob of %d bytes: %d, want %d", size, n, e, want)
			}
		}
		if wrote := len(s.Keys("")) > 0; wrote != (size >= 78) {
			t.Errorf("size %d: %v", size, s.Keys(""))
		}
		checkMount(t, f, content(s))
	}
}

// The greatest flash, with the longest blobs and keys.
func TestGreatest(t *testing.T) {
	s, f := store(t, api.MaxSectors, api.MaxSector)
	if want := 62 * 65524 / 4; s.Room() != want {
		t.Fatalf("Room is %d, want %d", s.Room(), want)
	}
	m := model{}
	for i := range 250 {
		key := fmt.Sprintf("%064d", i)
		l := []api.Change{put(key, strings.Repeat("x", api.MaxBlob))}
		if m.behind(l).live()+room(l) > s.Room() {
			break
		}
		commit(t, s, l...)
		m = m.behind(l)
	}
	checkMount(t, f, m)
	if len(m) < 200 {
		t.Errorf("only %d keys", len(m))
	}
}

func TestRoom(t *testing.T) {
	for _, c := range []struct{ sectors, size, want int }{
		{1, 64, 0}, {1, 65536, 0}, {2, 256, 0}, {3, 64, 13}, {3, 256, 61}, {3, 257, 61}, {3, 260, 62}, {4, 257, 122}, {64, 65536, 62 * 65524 / 4},
		{5, 67, 3 * 55 / 4}, {7, 65, 5 * 53 / 4},
	} {
		s, _ := store(t, c.sectors, c.size)
		if s.Room() != c.want {
			t.Errorf("%d sectors of %d bytes: %d, want %d", c.sectors, c.size, s.Room(), c.want)
		}
	}
}

// R6: neither what is handed in nor what is told is shared with the store, nor is spare room written.
func TestNothingShared(t *testing.T) {
	s, f := store(t, 4, 256)
	spare := []byte("here and there")
	l := make([]api.Change, 2, 4)
	l[0], l[1] = api.Change{Key: "a", Blob: spare[:4]}, api.Change{Del: true, Key: "b", Blob: spare[5:8]}
	l[:4][2] = put("spare", "room")
	commit(t, s, l...)
	if string(spare) != "here and there" || l[0].Key != "a" || l[0].Del || !l[1].Del || l[:4][2].Key != "spare" || l[:4][3].Key != "" {
		t.Fatalf("what was handed in was changed: %q, %v", spare, l[:4])
	}
	m := model{"a": "here"}
	check(t, s, m)
	copy(spare, "HERE AND THERE")
	l[0], l[1] = put("c", "x"), put("d", "y")
	check(t, s, m)
	for range 2 {
		b, _ := s.Get("a")
		if cap(b) > len(b) {
			b = b[:cap(b)]
		}
		for i := range b {
			b[i] = '!'
		}
		k := s.Keys("")
		k[0] = "q"
		x := s.Sectors()
		x[0], x[1] = api.Sector{State: 7}, api.Sector{Seq: 9}
		check(t, s, m)
		if !slices.Equal(s.Sectors(), looks(t, f)) {
			t.Fatal("Sectors is shared")
		}
	}
	// What was kept is put once more by cleaning, also if its giver changed it.
	for range 40 {
		commit(t, s, put("z", strings.Repeat("z", 80)))
	}
	m["z"] = strings.Repeat("z", 80)
	check(t, s, m)
	checkMount(t, f, m)
}

// R7: stores of their own don't depend on one another.
func TestApart(t *testing.T) {
	a, fa := store(t, 3, 256)
	b, fb := store(t, 3, 256)
	commit(t, a, put("a", "1"))
	commit(t, b, put("b", "2"))
	check(t, a, model{"a": "1"})
	check(t, b, model{"b": "2"})
	check(t, mount(t, fa), model{"a": "1"})
	check(t, mount(t, fb), model{"b": "2"})
}

// A store whose flash goes down is down, also behind a reset; what it had it still has, but for the sectors.
func TestDownStore(t *testing.T) {
	s, f := store(t, 4, 256)
	commit(t, s, put("a", "1"))
	f.Fuse(0, api.Tear{Keep: 3})
	if e := s.Commit([]api.Change{put("b", "2")}); e != api.ErrDown {
		t.Fatalf("Commit: %d", e)
	}
	for range 2 {
		if !s.Down() || len(s.Sectors()) != 0 {
			t.Errorf("%v, %v", s.Down(), s.Sectors())
		}
		for _, l := range [][]api.Change{nil, {put("b", "2")}, {put("a", ""), put("a", "")}, {put("", "")}} {
			if e := s.Commit(l); e != api.ErrDown {
				t.Errorf("Commit(%v): %d", l, e)
			}
		}
		check(t, s, model{"a": "1"})
		if s.Room() != 2*244/4 {
			t.Errorf("Room: %d", s.Room())
		}
		f.Reset()
	}
	if got := mount(t, f); !maps.Equal(content(got), model{"a": "1"}) {
		t.Errorf("behind it: %v", content(got))
	}
}

// A flash that goes down by another's act takes the store down with the next commit.
func TestFlashDownBeneath(t *testing.T) {
	for _, n := range []int{0, 1, 2} {
		s, f := store(t, 4, 256)
		for range n {
			commit(t, s, put("a", strings.Repeat("x", 80)))
		}
		f.Fuse(0, api.Tear{})
		f.Program(0, nil)
		if len(s.Sectors()) != 0 {
			t.Errorf("sectors of a flash that is down: %v", s.Sectors())
		}
		if e := s.Commit([]api.Change{put("a", strings.Repeat("y", 80))}); e != api.ErrDown || !s.Down() {
			t.Errorf("Commit: %d, %v", e, s.Down())
		}
		f.Reset()
		if m := content(mount(t, f)); n > 0 && m["a"] != strings.Repeat("x", 80) || n == 0 && len(m) > 0 {
			t.Errorf("behind %d commits: %v", n, m)
		}
	}
}

// What the flash refuses takes the store down, too: bits that were cleared beneath it.
func TestFlashRefuses(t *testing.T) {
	s, f := store(t, 4, 256)
	commit(t, s, put("a", "1"))
	program(t, f, 0, 12+18+16, bytes.Repeat([]byte{0}, 20)...)
	if e := s.Commit([]api.Change{put("b", "2")}); e != api.ErrBit || !s.Down() {
		t.Errorf("Commit: %d, %v", e, s.Down())
	}
	check(t, s, model{"a": "1"})
	checkMount(t, f, model{"a": "1"})
}
