package wear_test

import (
	"math"
	"slices"
	"testing"

	"carpetbag/api"
	"carpetbag/wear"
)

// next holds what Next answers against the place that is wanted.
func next(t *testing.T, l []api.Sector, limit, wanted int) {
	t.Helper()
	if i, ok := wear.Next(l, limit); i != wanted || !ok {
		t.Fatalf("Next(%v, %d): %d, %v, not %d", l, limit, i, ok, wanted)
	}
}

// noNext asks that Next answers none.
func noNext(t *testing.T, l []api.Sector, limit int) {
	t.Helper()
	if i, ok := wear.Next(l, limit); i != 0 || ok {
		t.Fatalf("Next(%v, %d): %d, %v, not 0, false", l, limit, i, ok)
	}
}

// oldest holds what Oldest answers against the place that is wanted.
func oldest(t *testing.T, wanted int, l ...api.Sector) {
	t.Helper()
	if i, ok := wear.Oldest(l); i != wanted || !ok {
		t.Fatalf("Oldest(%v): %d, %v, not %d", l, i, ok, wanted)
	}
}

// noOldest asks that Oldest answers none.
func noOldest(t *testing.T, l ...api.Sector) {
	t.Helper()
	if i, ok := wear.Oldest(l); i != 0 || ok {
		t.Fatalf("Oldest(%v): %d, %v, not 0, false", l, i, ok)
	}
}

// free holds what Free answers against what is wanted.
func free(t *testing.T, l []api.Sector, limit, wanted int) {
	t.Helper()
	if n := wear.Free(l, limit); n != wanted {
		t.Fatalf("Free(%v, %d): %d, not %d", l, limit, n, wanted)
	}
}

// spread holds what Spread answers against what is wanted.
func spread(t *testing.T, wanted int, l ...api.Sector) {
	t.Helper()
	if n := wear.Spread(l); n != wanted {
		t.Fatalf("Spread(%v): %d, not %d", l, n, wanted)
	}
}

// limits are some, the least and the greatest among them.
func limits() []int {
	return []int{math.MinInt, -5, -1, 0, 1, 2, 3, 1000, api.MaxLimit, api.MaxLimit + 1, math.MaxInt}
}

// P7.1: no sectors, and one.

func TestExample(t *testing.T) {
	if i, ok := wear.Next(nil, 10); i != 0 || ok {
		t.Error(i, ok)
	}
}

func TestNoSectors(t *testing.T) {
	// The spare room isn't part of what is handed in.
	spare := []api.Sector{dirty(7), blank(0), used(1, 4)}
	for _, limit := range limits() {
		answers(t, nil, limit, none())
		answers(t, []api.Sector{}, limit, none())
		answers(t, spare[:0], limit, none())
	}
	answers(t, spare[:1], 8, told{opens: true, free: 1})
}

func TestOneSectorOfEachState(t *testing.T) {
	for _, limit := range limits() {
		for _, erases := range []int{math.MinInt, -6, -1, 0, 1, 2, 999, 1000, 1001, math.MaxInt} {
			answers(t, []api.Sector{blank(erases)}, limit, told{opens: true, free: 1})
			if erases < limit {
				answers(t, []api.Sector{dirty(erases)}, limit, told{opens: true, free: 1})
			} else {
				answers(t, []api.Sector{dirty(erases)}, limit, none())
			}
			answers(t, []api.Sector{used(0, erases)}, limit, told{is: true})
			answers(t, []api.Sector{used(math.MaxUint32, erases)}, limit, told{is: true})
		}
	}
}

func TestThreeSectors(t *testing.T) {
	l := []api.Sector{used(7, 1), dirty(5), blank(3)}
	answers(t, l, 6, told{next: 2, opens: true, is: true, free: 2, spread: 4})
	answers(t, l, 5, told{next: 2, opens: true, is: true, free: 1, spread: 4})
	l = []api.Sector{blank(4), used(7, 0), dirty(3), used(6, 9)}
	answers(t, l, 6, told{next: 2, opens: true, oldest: 3, is: true, free: 2, spread: 9})
	answers(t, l, 3, told{next: 0, opens: true, oldest: 3, is: true, free: 1, spread: 9})
}

func TestSectorsOfNoState(t *testing.T) {
	for _, state := range oddStates() {
		for _, limit := range limits() {
			noNext(t, []api.Sector{odd(state, 0)}, limit)
			free(t, []api.Sector{odd(state, 0), odd(state, -7)}, limit, 0)
			// It is passed by, also where it was erased least.
			next(t, []api.Sector{odd(state, -9), blank(3), odd(state, 0)}, limit, 1)
			free(t, []api.Sector{odd(state, -9), blank(3), odd(state, 0)}, limit, 1)
		}
		noOldest(t, odd(state, 0), blank(0), dirty(0))
		oldest(t, 1, odd(state, 0), used(5, 0), odd(state, 0))
		spread(t, 12, odd(state, -9), blank(3), odd(state, 0))
	}
}

// P7.1: Next and Free.

func TestOpeningBlankSectors(t *testing.T) {
	for _, limit := range limits() {
		for _, erases := range []int{limit - 1, limit, limit + 1, 0, math.MinInt, math.MaxInt} {
			next(t, []api.Sector{blank(erases)}, limit, 0)
			free(t, []api.Sector{blank(erases)}, limit, 1)
			next(t, []api.Sector{used(1, 0), blank(erases), used(2, 0)}, limit, 1)
			free(t, []api.Sector{used(1, 0), blank(erases), blank(erases)}, limit, 2)
		}
	}
}

func TestOpeningDirtySectors(t *testing.T) {
	for _, limit := range []int{-1000, -1, 0, 1, 2, 1000, api.MaxLimit, math.MaxInt} {
		next(t, []api.Sector{dirty(limit - 1)}, limit, 0)
		free(t, []api.Sector{dirty(limit - 1)}, limit, 1)
		noNext(t, []api.Sector{dirty(limit)}, limit)
		free(t, []api.Sector{dirty(limit)}, limit, 0)
		next(t, []api.Sector{dirty(limit), dirty(limit - 1), dirty(limit)}, limit, 1)
		free(t, []api.Sector{dirty(limit), dirty(limit - 1), dirty(limit)}, limit, 1)
		next(t, []api.Sector{dirty(math.MaxInt), dirty(math.MinInt)}, limit, 1)
	}
	for _, limit := range []int{-1000, -1, 0, 1, 2, 1000, api.MaxLimit, math.MaxInt - 1} {
		noNext(t, []api.Sector{dirty(limit + 1)}, limit)
		free(t, []api.Sector{dirty(limit + 1), dirty(math.MaxInt)}, limit, 0)
	}
	noNext(t, []api.Sector{dirty(math.MinInt)}, math.MinInt)
	free(t, []api.Sector{dirty(math.MinInt), dirty(0)}, math.MinInt, 0)
}

func TestOpeningUsedSectors(t *testing.T) {
	for _, limit := range limits() {
		l := []api.Sector{used(1, 0), used(0, -7), used(math.MaxUint32, 9)}
		noNext(t, l, limit)
		free(t, l, limit, 0)
	}
}

func TestNextOfNoneThatCanBeOpened(t *testing.T) {
	l := []api.Sector{dirty(5), used(1, 0), dirty(6), odd(3, 0), dirty(5)}
	for _, limit := range []int{math.MinInt, -1, 0, 4, 5} {
		noNext(t, l, limit)
		free(t, l, limit, 0)
	}
	next(t, l, 6, 0)
	free(t, l, 6, 2)
	free(t, l, 7, 3)
}

func TestNextIsErasedLeast(t *testing.T) {
	next(t, []api.Sector{dirty(3), dirty(2), dirty(1)}, 9, 2)
	next(t, []api.Sector{dirty(1), dirty(2), dirty(3)}, 9, 0)
	next(t, []api.Sector{dirty(2), dirty(1), dirty(3)}, 9, 1)
	next(t, []api.Sector{dirty(0), dirty(-1), dirty(1)}, 9, 1)
	next(t, []api.Sector{dirty(2), blank(1)}, 9, 1)
	next(t, []api.Sector{blank(2), dirty(1)}, 9, 1)
	next(t, []api.Sector{dirty(1), blank(2)}, 9, 0)
	next(t, []api.Sector{blank(1), dirty(2)}, 9, 0)
	// A dirty one that was erased too often is passed by, and one that is used.
	next(t, []api.Sector{dirty(5), blank(7), dirty(6)}, 5, 1)
	next(t, []api.Sector{used(1, 0), dirty(3), used(2, -1), blank(2)}, 5, 3)
	// What its Seq is doesn't matter.
	next(t, []api.Sector{{State: 1, Seq: 0, Erases: 2}, {State: 1, Seq: 9, Erases: 1}}, 5, 1)
	next(t, []api.Sector{{State: 0, Seq: 9, Erases: 1}, {State: 0, Seq: 0, Erases: 1}}, 5, 0)
	// Differences that are no ints.
	next(t, []api.Sector{blank(math.MaxInt), blank(math.MinInt), blank(0)}, 5, 1)
	next(t, []api.Sector{blank(math.MinInt), blank(math.MaxInt), blank(0)}, 5, 0)
	next(t, []api.Sector{dirty(math.MaxInt - 1), blank(math.MaxInt)}, math.MaxInt, 0)
}

func TestNextOfSeveralIsTheFirst(t *testing.T) {
	next(t, []api.Sector{dirty(1), dirty(1), dirty(1)}, 9, 0)
	next(t, []api.Sector{dirty(2), dirty(1), dirty(1)}, 9, 1)
	next(t, []api.Sector{dirty(2), blank(1), dirty(1)}, 9, 1)
	next(t, []api.Sector{dirty(2), dirty(1), blank(1)}, 9, 1)
	next(t, []api.Sector{blank(2), blank(1), blank(1), dirty(1)}, 9, 1)
	next(t, []api.Sector{used(1, 1), odd(7, 1), dirty(3), dirty(1), blank(1)}, 9, 3)
	next(t, []api.Sector{dirty(9), dirty(9), blank(9), blank(9)}, 9, 2)
}

func TestFreeCounts(t *testing.T) {
	l := []api.Sector{blank(0), dirty(0), used(0, 0), blank(9), dirty(4), dirty(5), odd(-1, 0), dirty(6)}
	for limit, wanted := range []int{2, 3, 3, 3, 3, 4, 5, 6} {
		free(t, l, limit, wanted)
	}
	free(t, l, -1, 2)
	free(t, slices.Repeat([]api.Sector{blank(1)}, 64), 0, 64)
	free(t, slices.Repeat([]api.Sector{dirty(1)}, 64), 2, 64)
	free(t, slices.Repeat([]api.Sector{dirty(1)}, 64), 1, 0)
}

// P7.1: Oldest.

func TestOldestHasTheLeastSeq(t *testing.T) {
	oldest(t, 0, used(1, 0), used(2, 0), used(3, 0))
	oldest(t, 2, used(3, 0), used(2, 0), used(1, 0))
	oldest(t, 1, used(3, 0), used(1, 0), used(2, 0))
	// How often it was erased doesn't matter.
	oldest(t, 0, used(1, 9), used(2, -1), used(3, 0))
	oldest(t, 2, used(3, math.MinInt), used(2, 0), used(1, math.MaxInt))
	// Seq is a number of 32 bits, without a sign.
	oldest(t, 1, used(math.MaxUint32, 0), used(0, 0))
	oldest(t, 0, used(0, 0), used(math.MaxUint32, 0))
	oldest(t, 1, used(1<<31, 0), used(1<<31-1, 0), used(math.MaxUint32, 0))
	oldest(t, 2, used(math.MaxUint32, 0), used(math.MaxUint32, 0), used(math.MaxUint32-1, 0))
}

func TestOldestOfSeveralIsTheFirst(t *testing.T) {
	for _, seq := range []uint32{0, 1, 1 << 31, math.MaxUint32} {
		oldest(t, 0, used(seq, 3), used(seq, 2), used(seq, 1))
		oldest(t, 1, blank(0), used(seq, 1), dirty(0), used(seq, 0))
	}
	oldest(t, 1, used(2, 0), used(1, 4), used(1, 3))
	oldest(t, 1, used(math.MaxUint32, 0), used(0, 4), used(0, 3))
}

func TestOldestPassesByTheOthers(t *testing.T) {
	noOldest(t, blank(0))
	noOldest(t, dirty(0))
	noOldest(t, blank(0), dirty(0), odd(3, 0), blank(1))
	for _, state := range append(oddStates(), api.Blank, api.Dirty) {
		other := api.Sector{State: state, Seq: 0, Erases: -1}
		noOldest(t, other)
		oldest(t, 1, other, used(5, 0), other)
		oldest(t, 2, other, used(math.MaxUint32, 0), used(7, 0), other)
	}
}

// P7.1: Spread.

func TestSpreadOfOne(t *testing.T) {
	for _, erases := range []int{math.MinInt, -1, 0, 1, 77, math.MaxInt} {
		spread(t, 0, blank(erases))
		spread(t, 0, dirty(erases))
		spread(t, 0, used(3, erases))
		spread(t, 0, odd(3, erases))
		spread(t, 0, dirty(erases), blank(erases), used(3, erases))
	}
}

func TestSpreadIsTheMostLessTheLeast(t *testing.T) {
	spread(t, 4, dirty(5), dirty(1))
	spread(t, 4, dirty(1), dirty(5))
	spread(t, 6, dirty(5), dirty(1), dirty(7), dirty(4))
	spread(t, 6, dirty(4), dirty(7), dirty(1), dirty(5))
	spread(t, 1, dirty(9), dirty(9), dirty(10))
	spread(t, 2, dirty(100), dirty(101), dirty(102))
	// All of them, of whatever state.
	spread(t, 9, blank(3), used(1, 0), dirty(9))
	spread(t, 9, blank(3), used(1, 9), dirty(0))
	spread(t, 9, blank(0), used(1, 3), odd(9, 9))
	// What its Seq is doesn't matter.
	spread(t, 0, used(0, 3), used(math.MaxUint32, 3))
}

func TestSpreadBelowZeroAndVeryGreat(t *testing.T) {
	spread(t, 4, dirty(-5), dirty(-1))
	spread(t, 3, dirty(-1), dirty(-4), dirty(-2))
	spread(t, 6, dirty(-1), dirty(5))
	spread(t, 6, dirty(5), dirty(0), dirty(-1))
	spread(t, math.MaxInt, dirty(0), dirty(math.MaxInt))
	spread(t, math.MaxInt, dirty(math.MaxInt), dirty(0))
	spread(t, 5, dirty(math.MaxInt), dirty(math.MaxInt-5))
	spread(t, math.MaxInt, dirty(math.MinInt), dirty(-1))
	spread(t, 5, dirty(math.MinInt+5), dirty(math.MinInt))
	// The difference is no int: there is an answer all the same.
	wear.Spread([]api.Sector{dirty(math.MinInt), dirty(math.MaxInt)})
}

// R6 and R7: what is handed in is neither changed nor kept.

func TestNothingIsChangedOrKept(t *testing.T) {
	all := []api.Sector{dirty(3), used(2, 1), blank(1), used(1, 5), blank(0), dirty(0), used(0, 9)}
	ahead := slices.Clone(all)
	for n := range len(all) + 1 {
		// What stands behind is the row's spare room.
		is(t, all[:n], 4)
		is(t, all[:n:n], 4)
		is(t, slices.Clone(all[:n]), 4)
	}
	if !slices.Equal(all, ahead) {
		t.Fatal("the row, or its spare room, changed")
	}
	first := tells(all, 4)
	all[4], all[5], all[6] = used(9, 40), dirty(90), blank(7)
	is(t, all, 4)
	copy(all, ahead)
	if again := tells(all, 4); again != first {
		t.Fatalf("%+v, then %+v", first, again)
	}
}
