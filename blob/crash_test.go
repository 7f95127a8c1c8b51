package blob_test

import (
	"fmt"
	"maps"
	"math/rand/v2"
	"strings"
	"testing"

	"carpetbag/api"
	"carpetbag/blob"
	"carpetbag/nor"
	"carpetbag/wear"
)

// A crash is what is there ahead of a commit, the commit, and what is there behind it.
type crash struct {
	flash  *nor.Flash
	before model
	l      []api.Change
	after  model
}

// tears are what an act may leave that is done in part.
func tears(keeps []int, masks ...byte) []api.Tear {
	var l []api.Tear
	for _, k := range keeps {
		for _, m := range masks {
			l = append(l, api.Tear{Keep: k, Mask: m})
		}
	}
	return l
}

// someTears are those of the places where something begins or ends: within headers, records, and a sector.
func someTears(size int) []api.Tear {
	return tears([]int{-1, 0, 1, 2, 7, 8, 9, 10, 11, 12, 15, 16, 24, 33, size - 13, size - 1, size}, 0, 0x55, 0xff)
}

// upTo is the numbers up to n.
func upTo(n int) []int {
	var l []int
	for i := range n + 1 {
		l = append(l, i)
	}
	return l
}

// P8.2: at each act of a commit the flash goes down, by each tear. It answers how many acts there are.
func (c crash) atEachAct(t *testing.T, tears []api.Tear) int {
	t.Helper()
	for n := 0; ; n++ {
		for i, tear := range tears {
			f := twin(t, c.flash)
			s := mount(t, f)
			f.Fuse(n, tear)
			e := s.Commit(c.l)
			if e == api.OK {
				checkMount(t, f, c.after)
				return n
			}
			if e != api.ErrDown || !s.Down() || len(s.Sectors()) != 0 {
				t.Fatalf("act %d, %v: %d, %v", n, tear, e, s.Down())
			}
			f.Reset()
			// Within Mount the same sectors are let go, whatever the tear was: some of them tell of all.
			c.behind(t, f, i%31 == 0, fmt.Sprintf("act %d, %v", n, tear))
		}
	}
}

// behind holds what Mount tells behind a crash, and, if it is asked, behind crashes within that Mount; what is done then is done.
func (c crash) behind(t *testing.T, f *nor.Flash, within bool, what string) {
	t.Helper()
	down := twin(t, f)
	s := mount(t, f)
	m := content(s)
	if !maps.Equal(m, c.before) && !maps.Equal(m, c.after) {
		t.Fatalf("%s: %q, neither %q nor %q", what, m, c.before, c.after)
	}
	if wear.Free(looks(t, f), f.Geometry().Limit) == 0 {
		t.Fatalf("%s: nothing can be opened: %v", what, looks(t, f))
	}
	if within && !sameFlash(t, down, f) {
		c.withinMount(t, down, m)
	}
	for i := range 3 {
		l := []api.Change{put("again", strings.Repeat(string(rune('a'+i)), 5))}
		if e := s.Commit(l); e == api.OK {
			m = m.behind(l)
		} else if e != api.ErrSpace || m.live()+room(l) <= s.Room() {
			t.Fatalf("%s, commit %d: %d", what, i, e)
		}
	}
	if s, e := blob.Mount(f); e != api.OK || !maps.Equal(content(s), m) {
		t.Fatalf("%s, and commits: %d, %q, want %q", what, e, content(s), m)
	}
}

// withinMount takes down a Mount that lets a sector go, at each of its acts.
func (c crash) withinMount(t *testing.T, down *nor.Flash, m model) {
	t.Helper()
	for n := 0; ; n++ {
		for _, tear := range tears([]int{0, 1, 8, 9, 10, 60}, 0, 0x0f, 0xff) {
			f := twin(t, down)
			f.Fuse(n, tear)
			s, e := blob.Mount(f)
			if e == api.OK {
				if n == 0 {
					t.Fatal("a Mount that changes the flash has no act")
				}
				return
			}
			if s != nil || e != api.ErrDown {
				t.Fatalf("Mount, act %d: %v, %d", n, s, e)
			}
			f.Reset()
			for range 2 {
				if s := mount(t, f); !maps.Equal(content(s), m) {
					t.Fatalf("Mount, act %d, %v: %q, want %q", n, tear, content(s), m)
				}
			}
			if wear.Free(looks(t, f), f.Geometry().Limit) == 0 {
				t.Fatalf("Mount, act %d, %v: nothing can be opened", n, tear)
			}
		}
	}
}

// crashes are commits, one behind the other, each with what is there ahead of it.
func crashes(t *testing.T, f *nor.Flash, commits [][]api.Change) []crash {
	t.Helper()
	var all []crash
	s, m := mount(t, f), model{}
	for _, l := range commits {
		c := crash{flash: twin(t, f), before: m, l: l, after: m.behind(l)}
		if e := s.Commit(l); e != api.OK {
			t.Fatalf("Commit(%v): %d", l, e)
		}
		m = c.after
		all = append(all, c)
	}
	return all
}

// churn is commits of a few keys: puts, deletes, and both.
func churn(n, keys, longest int) [][]api.Change {
	r := rand.New(rand.NewPCG(8, 4))
	l := [][]api.Change{{put("stays", "")}}
	for i := range n {
		c := put(string(rune('a'+r.IntN(keys))), strings.Repeat(string(rune('A'+i%26)), r.IntN(longest+1)))
		c.Del = r.IntN(4) == 0
		l = append(l, []api.Change{c})
		if i%3 == 0 {
			l[len(l)-1] = append(l[len(l)-1], put(string(rune('A'+r.IntN(keys))), ""))
		}
	}
	return l
}

// P8.2, over commits that write, open, clean and erase.
func TestCrashes(t *testing.T) {
	t.Parallel()
	for _, g := range []struct{ sectors, size, commits, keys, longest int }{
		{2, 192, 16, 1, 20}, {3, 160, 20, 2, 10}, {4, 160, 30, 4, 10}, {5, 256, 30, 6, 40},
	} {
		f := flash(t, g.sectors, g.size, 1000)
		most, least := 0, 100
		for _, c := range crashes(t, f, churn(g.commits, g.keys, g.longest)) {
			acts := c.atEachAct(t, someTears(g.size))
			most, least = max(most, acts), min(least, acts)
		}
		// A commit of one change has four acts; with a sector that is opened and one that is cleaned there are eight more, at least.
		if least != 4 || most < 12 || wear.Spread(looks(t, f)) > 2 {
			t.Errorf("%v: %d to %d acts, %v", g, least, most, looks(t, f))
		}
	}
}

// P8.2, by every tear: of the commit that has most acts.
func TestEveryTear(t *testing.T) {
	t.Parallel()
	const size = 160
	var most crash
	acts := 0
	for _, c := range crashes(t, flash(t, 3, size, 1000), churn(40, 2, 10)) {
		if n := c.atEachAct(t, []api.Tear{{}}); n > acts {
			most, acts = c, n
		}
	}
	most.atEachAct(t, tears(upTo(size), 0, 0xff))
	for mask := range 256 {
		most.atEachAct(t, tears([]int{0, 33}, byte(mask)))
	}
}

// A cleaned sector is void ahead of its erase, and its keys stand elsewhere ahead of that.
func TestVoidAheadOfErase(t *testing.T) {
	f := flash(t, 3, 256, 1000)
	hand(t, f, 0, 1, putRec(1, "a", strings.Repeat("a", 100)), commitRec(1, 1))
	full(t, f, 1, 2, "b")
	l := []api.Change{put("b", "2")}
	m := model{"a": strings.Repeat("a", 100), "b": strings.Repeat("b", 180)}
	void := false
	for n := 0; ; n++ {
		g := twin(t, f)
		s := mount(t, g)
		g.Fuse(n, api.Tear{})
		if e := s.Commit(l); e == api.OK {
			break
		} else if e != api.ErrDown {
			t.Fatalf("act %d: %d", n, e)
		}
		g.Reset()
		b := all(t, g)
		if b[9] == 0 {
			void = true
			checkMount(t, g, m)
		} else if x, _, _ := found(t, g, 2); g.Erases(0) > 0 && len(x) < 2 {
			t.Errorf("act %d: erased, and %v stands elsewhere", n, x)
		}
	}
	if !void {
		t.Error("the sector was erased, and never void")
	}
}

// P8.2 with sectors that were erased Limit times, where the last ones are opened.
func TestCrashesOfAWornFlash(t *testing.T) {
	f := flash(t, 4, 192, 2)
	s, m := mount(t, f), model{}
	for i := range 200 {
		l := []api.Change{put(fmt.Sprint(i%3), strings.Repeat(string(rune('a'+i%26)), 20)), del(fmt.Sprint((i + 1) % 3))}
		before := twin(t, f)
		if s.Commit(l) != api.OK {
			continue
		}
		for n := range 30 {
			for _, tear := range tears([]int{0, 5, 8, 9, 20, 100}, 0, 0x3c, 0xff) {
				g := twin(t, before)
				s := mount(t, g)
				g.Fuse(n, tear)
				e := s.Commit(l)
				g.Reset()
				for range 3 {
					got := content(mount(t, g))
					if e == api.OK && !maps.Equal(got, m.behind(l)) || !maps.Equal(got, m) && !maps.Equal(got, m.behind(l)) {
						t.Fatalf("commit %d, act %d, %v: %d, %q, ahead of it %q", i, n, tear, e, got, m)
					}
				}
			}
		}
		m = m.behind(l)
	}
	check(t, s, m)
}

// P8.2 and P8.3: one crash behind the other, a torn head behind each, for far longer than the flash holds.
func TestCrashUponCrash(t *testing.T) {
	t.Parallel()
	r := rand.New(rand.NewPCG(8, 5))
	for _, sectors := range []int{3, 4, 7} {
		const size = 256
		f := flash(t, sectors, size, api.MaxLimit)
		m := model{}
		for i := range 3000 {
			f.Fuse(r.IntN(4), api.Tear{Keep: r.IntN(size + 1), Mask: byte(r.Uint32())})
			s, e := blob.Mount(f)
			if e == api.OK && !maps.Equal(content(s), m) {
				t.Fatalf("round %d: %q, want %q", i, content(s), m)
			}
			f.Fuse(r.IntN(20), api.Tear{Keep: r.IntN(size + 1), Mask: byte(r.Uint32())})
			for e == api.OK {
				l := []api.Change{{Del: r.IntN(3) == 0, Key: string(rune('a' + r.IntN(sectors-2))), Blob: make([]byte, r.IntN(20))}}
				within := m.live()+room(l) <= s.Room()
				if e = s.Commit(l); e == api.ErrSpace && within {
					t.Fatalf("round %d: no room", i)
				}
				if e == api.OK {
					m = m.behind(l)
				}
				if e != api.ErrDown {
					e = api.OK
					continue
				}
				f.Reset()
				got := content(mount(t, twin(t, f)))
				if maps.Equal(got, m.behind(l)) {
					m = got
				} else if !maps.Equal(got, m) {
					t.Fatalf("round %d: %q, ahead of it %q", i, got, m)
				}
			}
			f.Reset()
		}
		if l := looks(t, f); wear.Spread(l) > 60 || l[0].Erases < 100 {
			t.Errorf("%v", l)
		}
		checkMount(t, f, m)
	}
}
