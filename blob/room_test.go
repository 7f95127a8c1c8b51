package blob_test

import (
	"fmt"
	"math/rand/v2"
	"slices"
	"strings"
	"testing"

	"carpetbag/api"
	"carpetbag/blob"
	"carpetbag/nor"
	"carpetbag/wear"
)

// step does a commit, and holds what became of the flash against the chapter's words; it answers what Commit did.
func step(t *testing.T, s *blob.Store, f *nor.Flash, m model, l []api.Change) api.Errno {
	t.Helper()
	before, old := twin(t, f), looks(t, f)
	left, txn := headRoom(t, f)
	within := s.Live()+room(l) <= s.Room()
	e := s.Commit(l)
	if !slices.Equal(s.Sectors(), looks(t, f)) {
		t.Fatal("Sectors aren't what Look tells")
	}
	worn := slices.ContainsFunc(old, func(x api.Sector) bool { return x.Erases == f.Geometry().Limit })
	switch {
	case e == api.ErrSpace:
		if room(l) <= left || within && !worn {
			t.Fatalf("no room for %d bytes: Live %d, Room %d, the head has %d", room(l), s.Live(), s.Room(), left)
		}
		if !sameFlash(t, f, before) {
			t.Fatal("what was refused changed the flash")
		}
	case e != api.OK:
		t.Fatalf("Commit: %d", e)
	case room(l) <= left:
		wroteInHead(t, f, old, txn, l)
	case wear.Free(old, f.Geometry().Limit) >= 2:
		openedNext(t, f, old)
	default:
		cleanedOldest(t, f, old)
	}
	return e
}

// wroteInHead holds a commit that had room in the head: nothing is opened, and its Txn is the next one.
func wroteInHead(t *testing.T, f *nor.Flash, old []api.Sector, txn uint32, l []api.Change) {
	t.Helper()
	if got := looks(t, f); !slices.Equal(got, old) {
		t.Fatalf("the head had room, but %v became %v", old, got)
	}
	x, _, closed := found(t, f, headOf(old))
	last := x[len(x)-1].Rec
	if closed || last.Kind != api.RecCommit || last.Txn != txn+1 || last.Count != len(l) {
		t.Fatalf("the head's last record is %v", last)
	}
	for i, c := range l {
		r := x[len(x)-1-len(l)+i].Rec
		if r.Key != c.Key || r.Txn != txn+1 || c.Del != (r.Kind == api.RecDel) || !c.Del && string(r.Blob) != string(c.Blob) {
			t.Fatalf("%v was laid as %v", c, r)
		}
	}
}

// openedNext holds a commit for which a sector could be opened: the one that was erased least, behind the last Seq, with Txn 1.
func openedNext(t *testing.T, f *nor.Flash, old []api.Sector) {
	t.Helper()
	want := slices.Clone(old)
	next, _ := wear.Next(old, f.Geometry().Limit)
	var seq uint32
	for _, x := range old {
		seq = max(seq, x.Seq)
	}
	want[next].Seq = seq + 1
	if want[next].State == api.Dirty {
		want[next].Erases++
	}
	want[next].State = api.Used
	if got := looks(t, f); !slices.Equal(got, want) {
		t.Fatalf("%v became %v, want %v", old, got, want)
	}
	for _, x := range first(found(t, f, next)) {
		if x.Rec.Txn != 1 {
			t.Fatalf("a new head has %v", x.Rec)
		}
	}
}

func first(l []api.Found, _ int, _ bool) []api.Found { return l }

// cleanedOldest holds a commit for which sectors were cleaned: the oldest ones are gone, the others stay, and there are as many to open as there were.
func cleanedOldest(t *testing.T, f *nor.Flash, old []api.Sector) {
	t.Helper()
	got := looks(t, f)
	var last uint32
	for _, x := range old {
		last = max(last, x.Seq)
	}
	kept := false
	for _, i := range bySeq(old) {
		same := got[i] == old[i]
		if !same && kept {
			t.Fatalf("sector %d was cleaned ahead of an older one: %v became %v", i, old, got)
		}
		kept = same
		// Where all were cleaned, the first Seq comes once more.
		gone := got[i].State != api.Used || got[i].Seq > last || got[i].Seq == 1
		if limit := f.Geometry().Limit; !same && (!gone || got[i].Erases == old[i].Erases && got[i].Erases < limit) {
			t.Fatalf("sector %d wasn't cleaned: %v became %v", i, old, got)
		}
	}
	if oldest, ok := wear.Oldest(old); !ok || got[oldest] == old[oldest] {
		t.Fatalf("the oldest wasn't cleaned: %v became %v", old, got)
	}
	if limit := f.Geometry().Limit; !slices.ContainsFunc(got, func(x api.Sector) bool { return x.Erases == limit }) && wear.Free(got, limit) < wear.Free(old, limit) {
		t.Fatalf("fewer can be opened: %v became %v", old, got)
	}
}

// bySeq is the places of the used sectors in the order of Seq.
func bySeq(l []api.Sector) []int {
	var row []int
	for i, x := range l {
		if x.State == api.Used {
			row = append(row, i)
		}
	}
	slices.SortStableFunc(row, func(a, b int) int { return int(l[a].Seq) - int(l[b].Seq) })
	return row
}

// anyCommit is changes of a few keys that are at most half of a sector.
func anyCommit(r *rand.Rand, keys, longest, half int) []api.Change {
	var l []api.Change
	for range 1 + r.IntN(api.MaxChanges) {
		c := api.Change{Del: r.IntN(3) == 0, Key: fmt.Sprint(r.IntN(keys)), Blob: make([]byte, r.IntN(longest+1))}
		for i := range c.Blob {
			c.Blob[i] = byte(r.Uint32())
		}
		if room(append(l, c)) > half {
			break
		}
		if !slices.ContainsFunc(l, func(d api.Change) bool { return d.Key == c.Key }) {
			l = append(l, c)
		}
	}
	return l
}

// P8.1, P8.3 and P8.4: whatever is put and deleted, the store tells what the model tells, and so does a new Mount; within Room nothing is refused; what is refused does nothing.
func TestAgainstModel(t *testing.T) {
	r := rand.New(rand.NewPCG(8, 2))
	for round := range 80 {
		sectors, size := 1+r.IntN(9), 78+r.IntN(300)
		limit := 1 + r.IntN(4)
		if round%3 > 0 {
			limit = api.MaxLimit
		}
		f := flash(t, sectors, size, limit)
		s, m := mount(t, f), model{}
		keys, longest := 1+r.IntN(5*sectors), 1+r.IntN(size/3)
		for range 100 {
			l := anyCommit(r, keys, longest, (size-12)/2)
			if len(l) == 0 {
				continue
			}
			if step(t, s, f, m, l) == api.OK {
				m = m.behind(l)
			}
			check(t, s, m)
			checkMount(t, f, m)
			if r.IntN(4) == 0 {
				s = mount(t, f)
			}
		}
	}
}

// P8.3: with Live and the commit's room together just Room nothing is refused, however long it goes on, and however the keys were put.
func TestJustRoom(t *testing.T) {
	r := rand.New(rand.NewPCG(8, 3))
	for round := range 60 {
		sectors, size := 3+round%14, 120+r.IntN(500)
		s, f := store(t, sectors, size)
		half := (size - 12) / 2
		// The churned commit's room, and what is left for keys that stay.
		churn := 33 + r.IntN(max(1, min(half, s.Room()/3)-33+1))
		if churn > half || 2*churn-16+16 > s.Room() {
			continue
		}
		m := fillTo(t, s, r, s.Room()-2*churn, half)
		c := put("#", strings.Repeat("x", churn-33))
		for i := range 40 * sectors {
			c.Blob = slices.Clone(c.Blob)
			if len(c.Blob) > 0 {
				c.Blob[0] = byte(i)
			}
			if s.Live() == s.Room()-2*churn+churn && i == 0 {
				t.Fatal("the churned key is there already")
			}
			if e := s.Commit([]api.Change{c}); e != api.OK {
				t.Fatalf("%d sectors of %d bytes, commit %d: %d; Live %d, Room %d", sectors, size, i, e, s.Live(), s.Room())
			}
			m = m.behind([]api.Change{c})
		}
		if s.Live()+churn > s.Room() {
			t.Fatalf("Live %d and %d are beyond Room %d", s.Live(), churn, s.Room())
		}
		check(t, s, m)
		checkMount(t, f, m)
	}
}

// fillTo puts keys until Live is as much, in commits of as many small keys as go.
func fillTo(t *testing.T, s *blob.Store, r *rand.Rand, live, half int) model {
	t.Helper()
	m := model{}
	for i := 0; ; {
		var l []api.Change
		for len(l) < api.MaxChanges {
			c := put(fmt.Sprint(i), strings.Repeat("k", r.IntN(1+r.IntN(4))))
			next := append(l, c)
			if room(next) > half || m.behind(next).live() > live || m.live()+room(next) > s.Room() {
				break
			}
			l = next
			i++
		}
		if len(l) == 0 {
			return m
		}
		commit(t, s, l...)
		m = m.behind(l)
	}
}

// Sectors full of commits of many small keys: put once more, each in a commit of its own, they would need more than a sector has.
func TestSmallKeysAreCleaned(t *testing.T) {
	s, f := store(t, 12, 2*(16+16*18)+12)
	m := model{}
	for i := range 2 {
		var l []api.Change
		for k := range api.MaxChanges {
			l = append(l, put(fmt.Sprintf("%c%c", 'a'+i, 'a'+k), ""))
		}
		if e := step(t, s, f, m, l); e != api.OK {
			t.Fatalf("Commit: %d", e)
		}
		m = m.behind(l)
	}
	for i := range 300 {
		l := []api.Change{put("z", strings.Repeat(string(rune('a'+i%26)), 200+i%5))}
		if e := step(t, s, f, m, l); e != api.OK {
			t.Fatalf("commit %d: %d", i, e)
		}
		m = m.behind(l)
		check(t, s, m)
	}
	checkMount(t, f, m)
}

// One more byte than Room may be refused; where it is depends on what else is kept. That much is refused in the end.
func TestBeyondRoom(t *testing.T) {
	for _, sectors := range []int{1, 2, 3, 4, 7} {
		s, f := store(t, sectors, 256)
		m := model{}
		refused := false
		for i := range 20 * sectors {
			l := []api.Change{put(fmt.Sprint(i), strings.Repeat("x", 40))}
			if step(t, s, f, m, l) == api.OK {
				if refused {
					t.Fatalf("%d sectors: taken behind a refusal", sectors)
				}
				m = m.behind(l)
			} else {
				refused = true
			}
			check(t, s, m)
		}
		checkMount(t, f, m)
		if !refused || sectors == 1 && len(m) > 0 || sectors > 1 && len(m) == 0 {
			t.Errorf("%d sectors took %d keys", sectors, len(m))
		}
		if s.Down() {
			t.Error("the store is down")
		}
	}
}

// A flash of two sectors: the one that is used is cleaned into the other.
func TestTwoSectors(t *testing.T) {
	s, f := store(t, 2, 256)
	m := model{}
	for i := range 200 {
		l := []api.Change{put(fmt.Sprint(i%2), strings.Repeat(string(rune('a'+i%26)), 30))}
		if i%7 == 6 {
			l = []api.Change{del("0"), del("1")}
		}
		if e := step(t, s, f, m, l); e != api.OK {
			t.Fatalf("commit %d: %d", i, e)
		}
		m = m.behind(l)
		check(t, s, m)
		checkMount(t, f, m)
	}
	if f.Erases(0) < 10 || f.Erases(1) < 10 {
		t.Errorf("erased %d and %d times", f.Erases(0), f.Erases(1))
	}
}

// A flash of one sector never opens it, but a head that was written by hand is used as far as it goes.
func TestOneSector(t *testing.T) {
	s, f := store(t, 1, 256)
	if e := s.Commit([]api.Change{put("a", "")}); e != api.ErrSpace {
		t.Errorf("a blank sector: %d", e)
	}
	hand(t, f, 0, 1)
	s = mount(t, f)
	n := 0
	for s.Commit([]api.Change{del("a")}) == api.OK {
		n++
	}
	if n != 244/33 {
		t.Errorf("%d commits", n)
	}
	if e := s.Commit([]api.Change{del("a")}); e != api.ErrSpace || f.Erases(0) != 0 {
		t.Errorf("a full one: %d, erased %d times", e, f.Erases(0))
	}
}

// The end of a flash: its sectors are erased Limit times, each commit is done or refused, and nothing is lost.
func TestWornFlash(t *testing.T) {
	for _, limit := range []int{1, 2, 3, 7} {
		f := flash(t, 4, 256, limit)
		s, m := mount(t, f), model{}
		refused := 0
		for i := 0; refused < 50; i++ {
			l := []api.Change{put(fmt.Sprint(i%3), strings.Repeat(string(rune('a'+i%26)), 50))}
			if step(t, s, f, m, l) == api.OK {
				m = m.behind(l)
			} else {
				refused++
			}
			check(t, s, m)
			checkMount(t, f, m)
		}
		for i, x := range s.Sectors() {
			if x.Erases > limit {
				t.Errorf("sector %d: %v", i, x)
			}
		}
		if n := f.Erases(0) + f.Erases(1) + f.Erases(2) + f.Erases(3); n < 3*limit {
			t.Errorf("limit %d: the flash was given up after %d erases", limit, n)
		}
	}
}

// Many commits to a few keys, for far longer than the flash holds: sectors are worn evenly, those of keys that stay, too.
func TestLongRun(t *testing.T) {
	s, f := store(t, 6, 256)
	m := model{}.behind([]api.Change{put("stays", "where it is")})
	commit(t, s, put("stays", "where it is"))
	for i := range 6000 {
		l := []api.Change{put(fmt.Sprint(i%3), strings.Repeat(string(rune('a'+i%26)), i%29))}
		commit(t, s, l...)
		m = m.behind(l)
		if i%97 == 0 {
			check(t, s, m)
			checkMount(t, f, m)
		}
	}
	if l := s.Sectors(); wear.Spread(l) > 2 || l[0].Erases < 100 {
		t.Errorf("%v", l)
	}
}

// erased is how often a flash's sectors were erased.
func erased(f *nor.Flash) int {
	n := 0
	for i := range f.Geometry().Sectors {
		n += f.Erases(i)
	}
	return n
}

// nearlyFull does any commits to a small flash, whose sectors are worn and dirty, and answers the most erases of one of them for each sector.
func nearlyFull(t *testing.T, seed uint64) int {
	t.Helper()
	r := rand.New(rand.NewPCG(8, seed))
	sectors, size := 3+r.IntN(3), 90+r.IntN(100)
	limit := 3 + r.IntN(8)
	f := flash(t, sectors, size, limit)
	for i := range sectors {
		for range r.IntN(limit) {
			f.Erase(i)
		}
		if r.IntN(4) > 0 {
			program(t, f, i, r.IntN(size), 0)
		}
	}
	s, m := mount(t, f), model{}
	keys, longest, most := 3*sectors, size/4, 0
	for range 40 {
		l := []api.Change{{Del: r.IntN(4) == 0, Key: string(rune('a' + r.IntN(keys))), Blob: make([]byte, r.IntN(longest))}}
		if 2*room(l) > size-12 {
			continue
		}
		before := erased(f)
		if step(t, s, f, m, l) == api.OK {
			m = m.behind(l)
		}
		most = max(most, erased(f)-before)
		check(t, s, m)
	}
	checkMount(t, f, m)
	return most / sectors
}

// A flash that is nearly full: sectors are cleaned one behind the other till there is room; dirty and worn ones are among them.
func TestNearlyFull(t *testing.T) {
	for seed := range uint64(300) {
		nearlyFull(t, seed)
	}
	// Of these a sector is opened and cleaned in one commit, the erase of which makes it a worn one.
	for _, seed := range []uint64{523, 1618, 1865, 2572, 4152, 8907, 11135, 11365, 12440} {
		nearlyFull(t, seed)
	}
	// Of this one a commit needs more steps than there are sectors.
	if n := nearlyFull(t, 50996); n < 2 {
		t.Errorf("only %d erases for each sector", n)
	}
}
