package rms_test

import (
	"math/rand/v2"
	"slices"
	"strings"
	"testing"

	"carpetbag/api"
	"carpetbag/rms"
)

// someStep is any step, of a few suites and names, and of an ID that is there most often.
func someStep(r *rand.Rand, m model, lengths ...int) step {
	x := step{kind: r.IntN(kinds), place: place{[]string{"a", "ab", "b"}[r.IntN(3)], "n" + string(rune('a'+r.IntN(10)))}}
	if x.kind == dropping && r.IntN(3) > 0 {
		x.kind = adding
	}
	if r.IntN(2) == 0 {
		x.name = "na"
	}
	b := m[x.place]
	if x.id = r.IntN(b.next + 2); r.IntN(3) > 0 && len(b.data) > 0 {
		l := b.records().List
		x.id = int(l[r.IntN(len(l))].ID)
	}
	x.data = strings.Repeat(string([]byte{byte(r.Uint32())}), lengths[r.IntN(len(lengths))])
	return x
}

// P9.1, P9.2, P5: step by step against the model, mounted once more from time to time.
func TestAgainstTheModel(t *testing.T) {
	t.Parallel()
	for seed := range uint64(4) {
		r := rand.New(rand.NewPCG(9, seed))
		f := flash(t, 16, 32768)
		s, m := mount(t, f), model{}
		given := map[place][]uint32{}
		// Of short data a store has MaxRecords, of long ones more than a blob's bytes.
		lengths := [][]int{{0}, {0, 1, 2, 513}, {0, 1, 30, 511, 512, 513}, {300, 512, 600}}[seed]
		count := [18]int{}
		for i := range 4000 {
			x := someStep(r, m, lengths...)
			next, wantID, want := m.behind(x)
			if b := next[x.place]; want == api.OK && x.kind != dropping && len(modelBytes(b.records())) > api.MaxBlob {
				next, wantID, want = m, 0, api.ErrArg
			}
			id, e := x.do(s)
			if id != wantID || e != want {
				t.Fatalf("step %d, %v: %d, %d, want %d, %d", i, x, id, e, wantID, want)
			}
			m = next
			count[e]++
			switch {
			case x.kind == dropping && e == api.OK:
				delete(given, x.place)
			case x.kind == adding && e == api.OK:
				if slices.ContainsFunc(given[x.place], func(old uint32) bool { return old >= id }) {
					t.Fatalf("step %d, %v: the ID %d behind %v", i, x, id, given[x.place])
				}
				given[x.place] = append(given[x.place], id)
			}
			if i%500 == 499 {
				s = mount(t, f)
				check(t, s, m, "a", "ab", "b", "n", "")
			} else if i%50 == 0 {
				check(t, s, m, "a", "ab", "b")
			}
		}
		if count[api.OK] < 1000 || count[api.ErrMissing] < 100 || count[api.ErrLong] < 5 || seed == 3 && count[api.ErrArg] < 5 {
			t.Errorf("seed %d: answers by errors: %v", seed, count)
		}
	}
}

// P9.2: no ID is given twice, whatever is set and deleted between, and mounted once more.
func TestIDsAreNeverGivenTwice(t *testing.T) {
	s, f := roomy(t)
	create(t, s, "a", "b")
	for i := range uint32(300) {
		add(t, s, "a", "b", "x", i+1)
		switch i % 4 {
		case 0:
			// The newest goes: the next one isn't it once more.
			if e := rms.Delete(s, "a", "b", i+1); e != api.OK {
				t.Fatal(e)
			}
		case 1:
			if e := rms.Set(s, "a", "b", i+1, nil); e != api.OK {
				t.Fatal(e)
			}
			s = mount(t, f)
		case 2:
			// None is left.
			for _, x := range open(t, s, "a", "b").List {
				if e := rms.Delete(s, "a", "b", x.ID); e != api.OK {
					t.Fatal(e)
				}
			}
			s = mount(t, f)
			if r, e := rms.Open(s, "a", "b", true); e != api.OK || r.Next != i+2 || len(r.List) != 0 {
				t.Fatal(r, e)
			}
		}
	}
}
