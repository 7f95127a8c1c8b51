package wear_test

import (
	"slices"
	"testing"

	"carpetbag/api"
	"carpetbag/nor"
	"carpetbag/page"
	"carpetbag/wear"
)

// erased is a row of dirty sectors that were erased so often.
func erased(erases ...int) []api.Sector {
	var l []api.Sector
	for _, n := range erases {
		l = append(l, dirty(n))
	}
	return l
}

// wearOut erases always the next one, at most so many times, and asks that Spread never grows beyond what it may; it answers how many were erased.
func wearOut(t *testing.T, l []api.Sector, limit, times int) int {
	t.Helper()
	bound := max(1, wear.Spread(l))
	for turn := range times {
		i, ok := wear.Next(l, limit)
		if !ok {
			return turn
		}
		l[i].Erases++
		if n := wear.Spread(l); n > bound {
			t.Fatalf("turn %d: %v are spread by %d, more than %d", turn, l, n, bound)
		} else if n <= 1 {
			// Once they are even they stay so.
			bound = 1
		}
	}
	return times
}

// P7.2: what is always opened next, erased before, is worn evenly.

func TestEvenRowsStayEven(t *testing.T) {
	for _, n := range []int{1, 2, 3, 7, 64, 300} {
		for _, erases := range []int{0, 1, 500, -3} {
			l := slices.Repeat(erased(erases), n)
			const rounds = 30
			if turns := wearOut(t, l, 1000, rounds*n); turns != rounds*n {
				t.Fatalf("%d sectors: none is next behind %d turns", n, turns)
			}
			if !slices.Equal(l, slices.Repeat(erased(erases+rounds), n)) {
				t.Fatalf("not each one was erased %d times: %v", rounds, l)
			}
		}
	}
}

func TestUnevenRowsGrowEven(t *testing.T) {
	for _, l := range [][]api.Sector{
		erased(0, 1), erased(1, 0), erased(0, 2), erased(9, 0), erased(0, 9, 9), erased(9, 9, 0),
		erased(5, 3, 8, 1, 9), erased(7, 7, 7, 0, 7), erased(-4, 4, 0), erased(100, 0, 50, 0, 100),
	} {
		most := slices.MaxFunc(l, func(a, b api.Sector) int { return a.Erases - b.Erases }).Erases
		lacking := 0
		for _, s := range l {
			lacking += most - s.Erases
		}
		// So many times, and all of them are as worn as the one that was worn most.
		if turns := wearOut(t, l, 1000, lacking); turns != lacking || wear.Spread(l) != 0 {
			t.Fatalf("%d turns of %d: %v", turns, lacking, l)
		}
		wearOut(t, l, 1000, 40)
		if wear.Spread(l) > 1 {
			t.Fatal(l)
		}
	}
}

func TestUnevenRowsNeverSpread(t *testing.T) {
	d := dice(2)
	for range 300 {
		l := make([]api.Sector, 1+d.IntN(20))
		for i := range l {
			l[i] = dirty(d.IntN(1 + d.IntN(40)))
		}
		wearOut(t, l, 1000, 600)
		wearOut(t, l, d.IntN(100), 600)
	}
}

func TestRowsAreWornOut(t *testing.T) {
	for _, limit := range []int{1, 2, 17} {
		l := erased(0, 0, 1, 0, 0)
		if turns := wearOut(t, l, limit, 1000); turns != 5*limit-1 {
			t.Fatalf("limit %d: %d turns", limit, turns)
		}
		if !slices.Equal(l, slices.Repeat(erased(limit), 5)) || wear.Free(l, limit) != 0 {
			t.Fatalf("limit %d: %v", limit, l)
		}
	}
}

// looked are a flash's sectors.
func looked(t *testing.T, f *nor.Flash) []api.Sector {
	t.Helper()
	var l []api.Sector
	for i := range f.Geometry().Sectors {
		s, e := page.Look(f, i)
		if e != api.OK {
			t.Fatal(e)
		}
		l = append(l, s)
	}
	return l
}

// A flash's sectors are opened and, some of them being used, the oldest is let go, until all are worn out.
func TestAFlashIsWornEvenly(t *testing.T) {
	for _, g := range []api.Geometry{{Sectors: 1, Size: 64, Limit: 9}, {Sectors: 5, Size: 64, Limit: 9}, {Sectors: 8, Size: 67, Limit: 30}} {
		for used := range g.Sectors {
			f, _ := nor.New(g)
			opened := fillAndLetGo(t, f, used)
			if opened != g.Sectors*(g.Limit+1) {
				t.Fatalf("%v, %d used: opened %d times", g, used, opened)
			}
		}
	}
}

// fillAndLetGo opens always the next sector, lets the oldest one go where more than so many are used or none can be opened, and answers how often it opened one.
func fillAndLetGo(t *testing.T, f *nor.Flash, used int) int {
	t.Helper()
	limit, opened := f.Geometry().Limit, 0
	var row []int
	for {
		l := looked(t, f)
		// Those that stay in use meanwhile aren't worn, so the promise isn't of them.
		if used == 0 && wear.Spread(l) > 1 {
			t.Fatalf("spread: %v", l)
		}
		i, ok := wear.Next(l, limit)
		if ok != (wear.Free(l, limit) > 0) {
			t.Fatalf("next %d, %v, of %d: %v", i, ok, wear.Free(l, limit), l)
		}
		if ok {
			opened++
			row = append(row, i)
			if e := page.Open(f, i, uint32(opened)); e != api.OK {
				t.Fatal(i, e)
			}
		}
		switch {
		case len(row) == 0:
			return opened
		case len(row) > used || !ok:
			letGo(t, f, row[0])
			row = row[1:]
		}
	}
}

// letGo asks that a sector is the oldest, and lets it go.
func letGo(t *testing.T, f *nor.Flash, wanted int) {
	t.Helper()
	if i, ok := wear.Oldest(looked(t, f)); i != wanted || !ok {
		t.Fatalf("the oldest is %d, %v, not %d", i, ok, wanted)
	}
	if e := page.Void(f, wanted); e != api.OK {
		t.Fatal(e)
	}
}
