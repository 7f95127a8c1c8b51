package wear_test

import (
	"math"
	"math/rand/v2"
	"slices"
	"testing"

	"carpetbag/api"
	"carpetbag/wear"
)

// blank, dirty, used and odd are sectors, erased so often; their Seq tells nothing, but that of used ones.
func blank(erases int) api.Sector { return api.Sector{State: 0, Seq: 9, Erases: erases} }
func dirty(erases int) api.Sector { return api.Sector{State: 1, Seq: 8, Erases: erases} }
func used(seq uint32, erases int) api.Sector {
	return api.Sector{State: 2, Seq: seq, Erases: erases}
}
func odd(state, erases int) api.Sector { return api.Sector{State: state, Erases: erases} }

// oddStates are no states of a sector.
func oddStates() []int {
	return []int{3, 4, -1, -2, 255, 256, 257, 258, 1 << 32, 1<<32 + 1, 1<<32 + 2, math.MinInt, math.MinInt + 1, math.MinInt + 2, math.MaxInt}
}

// told is what the calls answer of a row.
type told struct {
	next   int
	opens  bool
	oldest int
	is     bool
	free   int
	spread int
}

// none is what is told of no sectors.
func none() told { return told{} }

// tells is what the calls tell of a row.
func tells(l []api.Sector, limit int) told {
	var a told
	a.next, a.opens = wear.Next(l, limit)
	a.oldest, a.is = wear.Oldest(l)
	a.free = wear.Free(l, limit)
	a.spread = wear.Spread(l)
	return a
}

// answers holds what the calls answer of a row against what is wanted.
func answers(t *testing.T, l []api.Sector, limit int, wanted told) {
	t.Helper()
	ahead := slices.Clone(l)
	if got := tells(l, limit); got != wanted {
		t.Fatalf("%v, limit %d: %+v, not %+v", ahead, limit, got, wanted)
	}
	if !slices.Equal(l, ahead) {
		t.Fatalf("%v, limit %d: the row that was handed in changed to %v", ahead, limit, l)
	}
}

// is holds what the calls answer of a row against what the chapter's words tell of it.
func is(t *testing.T, l []api.Sector, limit int) {
	t.Helper()
	answers(t, l, limit, modelled(l, limit))
}

// modelled is what the chapter's words tell of a row.
func modelled(l []api.Sector, limit int) told {
	var a told
	var opens, uses []int
	for i, s := range l {
		switch {
		case s.State == 0, s.State == 1 && s.Erases < limit:
			opens = append(opens, i)
		case s.State == 2:
			uses = append(uses, i)
		}
		for _, other := range l {
			a.spread = max(a.spread, s.Erases-other.Erases)
		}
	}
	a.free = len(opens)
	a.next, a.opens = first(opens, func(i, j int) bool { return l[i].Erases < l[j].Erases })
	a.oldest, a.is = first(uses, func(i, j int) bool { return l[i].Seq < l[j].Seq })
	return a
}

// first is the first of some places that no other one is ahead of.
func first(places []int, ahead func(i, j int) bool) (int, bool) {
	for _, i := range places {
		if !slices.ContainsFunc(places, func(j int) bool { return ahead(j, i) }) {
			return i, true
		}
	}
	return 0, false
}

// dice tells numbers that look as if thrown, the same ones each time.
func dice(seed uint64) *rand.Rand { return rand.New(rand.NewPCG(7, seed)) }

// P7.1: all calls, of all rows of a few kinds.

func TestEachRow(t *testing.T) {
	kinds := []api.Sector{
		blank(0), blank(2), dirty(0), dirty(1), dirty(2), used(0, 1), used(1, 3), odd(3, -1),
	}
	for n := range 6 {
		rows := 1
		for range n {
			rows *= len(kinds)
		}
		for which := range rows {
			l := make([]api.Sector, n)
			for i := range l {
				l[i] = kinds[which%len(kinds)]
				which /= len(kinds)
			}
			for limit := -1; limit <= 3; limit++ {
				is(t, l, limit)
			}
		}
	}
}

// P7.1: all calls, of rows that look as if thrown.

func TestAgainstModel(t *testing.T) {
	d := dice(1)
	for _, span := range []int{1, 2, 5, 1000, math.MaxInt / 2} {
		for range 4000 {
			l := make([]api.Sector, d.IntN(70))
			for i := range l {
				l[i] = api.Sector{State: d.IntN(5) - 1, Seq: uint32(d.IntN(1 << 33 / (1 + d.IntN(1<<33)))), Erases: d.IntN(span) - span/3}
			}
			is(t, l, d.IntN(span+2)-span/3)
		}
	}
}

func TestALongRow(t *testing.T) {
	const n = 200000
	l := make([]api.Sector, n)
	for i := range l {
		l[i] = [...]api.Sector{blank(n - i), dirty(n - i), used(uint32(n-i), n-i)}[i%3]
	}
	answers(t, l, 3, told{next: n - 1, opens: true, oldest: n - 3, is: true, free: (n+2)/3 + 1, spread: n - 1})
}
