package rms_test

import (
	"math/rand/v2"
	"testing"

	"carpetbag/api"
	"carpetbag/blob"
	"carpetbag/nor"
)

// tears are what an act may leave that is done in part.
func tears(size int) []api.Tear {
	var l []api.Tear
	for _, keep := range []int{0, 1, 8, 9, 10, 12, 17, 30, 45, size - 1, size} {
		for _, mask := range []byte{0, 0x5a, 0xff} {
			l = append(l, api.Tear{Keep: keep, Mask: mask})
		}
	}
	return l
}

// A crash is what is there ahead of a step, the step, and what is there behind it.
type crash struct {
	flash  *nor.Flash
	before model
	step   step
	after  model
}

// atEachAct takes the flash down at each act of the step, by each tear (P9.3). It answers how many acts there are.
func (c crash) atEachAct(t *testing.T, tears []api.Tear) int {
	t.Helper()
	for n := 0; ; n++ {
		for _, tear := range tears {
			f := twin(t, c.flash)
			s := mount(t, f)
			f.Fuse(n, tear)
			id, e := c.step.do(s)
			if e == api.OK {
				f.Reset()
				c.behind(t, mount(t, f), c.after)
				return n
			}
			if id != 0 || e != api.ErrDown {
				t.Fatalf("%v, act %d, %v: %d, %d", c.step, n, tear, id, e)
			}
			f.Reset()
			s = mount(t, f)
			m := told(t, s)
			if !sameModel(m, c.before) && !sameModel(m, c.after) {
				t.Fatalf("%v, act %d, %v: %v, neither %v nor %v", c.step, n, tear, m, c.before, c.after)
			}
			c.behind(t, s, m)
		}
	}
}

// behind holds what is there behind a crash: all that is told agrees, the other blobs stay, and it goes on from there.
func (c crash) behind(t *testing.T, s *blob.Store, m model) {
	t.Helper()
	check(t, s, m, "a", "ab", "b")
	if b, ok := s.Get("s/a"); !ok || string(b) != "other" {
		t.Fatalf("%v: a blob that is no record store's became %q, %v", c.step, b, ok)
	}
	if _, there := m[c.step.place]; !there {
		return
	}
	x := step{kind: adding, place: c.step.place, data: "z"}
	next, want, _ := m.behind(x)
	if id, e := x.do(s); e == api.OK && id == want {
		check(t, s, next)
	} else if e != api.ErrSpace && e != api.ErrLong {
		t.Fatalf("%v, and an Add: %d, %d, want %d", c.step, id, e, want)
	}
}

// crashes are steps that are done, one behind the other, each with what is there ahead of it.
func crashes(t *testing.T, f *nor.Flash, n int, seed uint64, lengths ...int) []crash {
	t.Helper()
	r := rand.New(rand.NewPCG(9, seed))
	s, m := mount(t, f), model{}
	put(t, s, "s/a", []byte("other"))
	var all []crash
	for len(all) < n {
		x := someStep(r, m, lengths...)
		if x.name != "na" && x.name != "nb" {
			continue
		}
		next, wantID, want := m.behind(x)
		if want != api.OK || sameModel(next, m) {
			continue
		}
		before := twin(t, f)
		if id, e := x.do(s); e == api.OK && id == wantID {
			all = append(all, crash{flash: before, before: m, step: x, after: next})
			m = next
		} else if e != api.ErrSpace && e != api.ErrLong {
			t.Fatalf("%v: %d, %d, want %d", x, id, e, wantID)
		}
	}
	return all
}

// P9.3, of each kind of step, of steps that open and clean sectors among them.
func TestCrashes(t *testing.T) {
	t.Parallel()
	for i, g := range []struct{ sectors, size, steps int }{{4, 256, 60}, {6, 512, 60}, {3, 1024, 60}} {
		acts, of := map[int]int{}, map[int]int{}
		for _, c := range crashes(t, flash(t, g.sectors, g.size), g.steps, uint64(i), 0, 1, 9, 25) {
			acts[c.atEachAct(t, tears(g.size))]++
			of[c.step.kind]++
		}
		// A commit of one change has four acts: more where a sector is opened, or cleaned.
		if acts[4] < 10 || len(acts) < 2 {
			t.Errorf("%v: steps by acts: %v", g, acts)
		}
		for kind := range kinds {
			if of[kind] == 0 {
				t.Errorf("%v: no step of the kind %d", g, kind)
			}
		}
	}
}

// P9.3, by every tear: of a step of each kind.
func TestEveryTear(t *testing.T) {
	t.Parallel()
	const size = 256
	var all []api.Tear
	for keep := range size + 1 {
		all = append(all, api.Tear{Keep: keep}, api.Tear{Keep: keep, Mask: 0xff})
	}
	for mask := range 256 {
		all = append(all, api.Tear{Keep: 20, Mask: byte(mask)})
	}
	seen := map[int]bool{}
	for _, c := range crashes(t, flash(t, 4, size), 40, 7, 0, 1, 9, 25) {
		if !seen[c.step.kind] && len(c.before) > 1 {
			seen[c.step.kind] = true
			c.atEachAct(t, all)
		}
	}
	if len(seen) != kinds {
		t.Errorf("kinds of steps: %v", seen)
	}
}

// P9.2 and P9.3: crash upon crash, an ID that was told is never given once more, and what was told as done is there.
func TestCrashUponCrash(t *testing.T) {
	t.Parallel()
	r := rand.New(rand.NewPCG(9, 3))
	const size = 512
	f := flash(t, 5, size)
	create(t, mount(t, f), "a", "na")
	m := model{place{"a", "na"}: {next: 1, data: map[int]string{}}}
	last := uint32(0)
	downs := 0
	for range 400 {
		s := mount(t, f)
		f.Fuse(r.IntN(30), api.Tear{Keep: r.IntN(size + 1), Mask: byte(r.Uint32())})
		for e := api.OK; e != api.ErrDown; {
			x := someStep(r, m, 0, 1, 9)
			if x.place != (place{"a", "na"}) || x.kind == dropping {
				continue
			}
			if x.kind == adding && len(m[x.place].data) > 6 {
				x.kind, x.id = deleting, int(m[x.place].records().List[0].ID)
			}
			next, wantID, want := m.behind(x)
			var id uint32
			if id, e = x.do(s); e == api.OK {
				m = next
			}
			if e != api.ErrDown && (id != wantID || e != want) {
				t.Fatalf("%v: %d, %d, want %d, %d", x, id, e, wantID, want)
			}
			if x.kind == adding && e == api.OK {
				if id <= last {
					t.Fatalf("the ID %d behind %d", id, last)
				}
				last = id
			}
			if e == api.ErrDown {
				f.Reset()
				got := told(t, mount(t, f))
				if !sameModel(got, m) && !sameModel(got, next) {
					t.Fatalf("%v: %v, neither %v nor %v", x, got, m, next)
				}
				m = got
				downs++
			}
		}
	}
	check(t, mount(t, f), m, "a")
	if downs != 400 || last < 100 {
		t.Errorf("%d crashes, the last ID is %d", downs, last)
	}
}
