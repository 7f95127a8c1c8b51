package flow_test

import (
	"slices"
	"testing"

	"carpetbag/api"
	"carpetbag/flow"
)

// P18.1, of any codes, and P18.2.

func TestThrownCodes(t *testing.T) {
	d := dice(1)
	got := map[api.Errno]int{}
	for range 60000 {
		m := thrown(&d)
		got[asks(t, m)]++
		for range d.next(4) {
			if len(m.Code) > 0 {
				m = spoilt(&d, m)
			}
		}
		got[asks(t, m)]++
	}
	for _, e := range []api.Errno{api.OK, api.ErrForm, api.ErrRange, api.ErrMissing} {
		if got[e] < 3000 {
			t.Errorf("but %d of the codes tell %d", got[e], e)
		}
	}
}

// fewCodes are all codes of so many instructions, of a few kinds.
func fewCodes(n int) [][]api.Ins {
	kinds := []api.Ins{{Op: api.OpNop}, {Op: api.OpReturn}}
	for to := range n {
		kinds = append(kinds, api.Ins{Op: api.OpIfeq, N: int64(to)}, api.Ins{Op: api.OpGoto, N: int64(to)})
	}
	all := [][]api.Ins{nil}
	for range n {
		var longer [][]api.Ins
		for _, c := range all {
			for _, x := range kinds {
				longer = append(longer, append(slices.Clone(c), x))
			}
		}
		all = longer
	}
	return all
}

// TestEachShortCode asks all codes of up to three instructions, with all maps and a trap, or none.
func TestEachShortCode(t *testing.T) {
	got := map[api.Errno]int{}
	for n := 1; n <= 3; n++ {
		for _, c := range fewCodes(n) {
			for set := range 1 << n {
				m := method(c)
				for at := range n {
					if set>>at&1 == 1 {
						m.Maps = append(m.Maps, api.Map{At: at})
					}
				}
				got[asks(t, m)]++
				for at := range n {
					m.Traps = []api.Trap{{From: at, To: n, At: (at + 1) % n}}
					got[asks(t, m)]++
				}
			}
		}
	}
	if got[api.OK] < 1000 || got[api.ErrMissing] < 1000 {
		t.Errorf("but %v", got)
	}
}

// TestPlacesOfCodesInShape is P18.2.
func TestPlacesOfCodesInShape(t *testing.T) {
	d := dice(2)
	got := 0
	for range 100000 {
		m := thrown(&d)
		if flow.Check(m) != api.OK {
			continue
		}
		got++
		reached := flow.Reached(m)
		for at, x := range m.Code {
			l := flow.Nexts(m, at)
			if len(l) == 0 && (x.Op == api.OpGoto || !flow.Ends(x.Op)) {
				t.Fatalf("%v goes on nowhere from %d", m, at)
			}
			for _, to := range l {
				_, ok := flow.MapAt(m, to)
				if to < 0 || to >= len(m.Code) || to != at+1 && !ok {
					t.Fatalf("%v goes on from %d to %d", m, at, to)
				}
				if reached[at] && !reached[to] {
					t.Fatalf("%v comes to %d, not to %d", m, at, to)
				}
			}
		}
		for _, x := range m.Traps {
			if _, ok := flow.MapAt(m, x.At); !ok {
				t.Fatalf("%v has no map at %d", m, x.At)
			}
		}
	}
	if got < 5000 {
		t.Errorf("but %d codes are in shape", got)
	}
}

// TestMoreRoomLeavesTheShape has more Stack and Locals, and more maps.
func TestMoreRoomLeavesTheShape(t *testing.T) {
	d := dice(3)
	for range 20000 {
		m := thrown(&d)
		if flow.Check(m) != api.OK {
			continue
		}
		m.Stack += d.next(65 - m.Stack)
		m.Locals += d.next(65 - m.Locals)
		m.Maps = nil
		for at := range m.Code {
			m.Maps = append(m.Maps, api.Map{At: at})
		}
		checks(t, m, api.OK)
	}
}
