package flow_test

import (
	"slices"
	"testing"

	"carpetbag/api"
	"carpetbag/flow"
)

// P18.1: what Ends, Nexts and MapAt answer.

func TestEnds(t *testing.T) {
	for op := range 256 {
		wanted := op == 167 || op == 172 || op == 173 || op == 176 || op == 177 || op == 191
		if flow.Ends(byte(op)) != wanted {
			t.Errorf("Ends(%d): %v", op, !wanted)
		}
	}
}

func TestNextsOfEachByte(t *testing.T) {
	for op := range 256 {
		isBranch, isEnd := slices.Contains(branches(), byte(op)), slices.Contains(ends(), byte(op))
		for n := range 4 {
			m := method([]api.Ins{{}, {Op: byte(op), N: int64(n)}, {}, {}})
			goesOn(t, m, 0, 1)
			var wanted []int
			if !isEnd {
				wanted = append(wanted, 2)
			}
			if isBranch && (n != 2 || isEnd) {
				wanted = append(wanted, n)
			}
			slices.Sort(wanted)
			goesOn(t, m, 1, wanted...)
			goesOn(t, m, 3)
		}
		// To no place, and at the row's end.
		for _, n := range beyond(2) {
			m := method([]api.Ins{{Op: byte(op), N: int64(n)}, {Op: byte(op), N: int64(n)}})
			if isEnd {
				goesOn(t, m, 0)
			} else {
				goesOn(t, m, 0, 1)
			}
			goesOn(t, m, 1)
		}
	}
}

func TestNextsWrittenOut(t *testing.T) {
	m := method([]api.Ins{
		{Op: api.OpIfeq, N: 3},      // 0
		{Op: api.OpIfnull, N: 2},    // 1: just the next one
		{Op: api.OpIcmpeq, N: 2},    // 2: itself
		{Op: api.OpGoto, N: 4},      // 3: the next one, but as a branch
		{Op: api.OpAcmpne, N: 0},    // 4: back
		{Op: api.OpGoto, N: 5},      // 5: itself
		{Op: api.OpIload, N: 1},     // 6: N is no place of the row
		{Op: api.OpReturn, N: 1},    // 7
		{Op: api.OpIfnonnull, N: 9}, // 8: beyond the row
	})
	for at, wanted := range [][]int{{1, 3}, {2}, {2, 3}, {4}, {0, 5}, {5}, {7}, nil, nil} {
		goesOn(t, m, at, wanted...)
	}
	for _, at := range beyond(9) {
		goesOn(t, m, at)
		goesOn(t, api.Method{}, at)
	}
	goesOn(t, api.Method{}, 0)
	goesOn(t, method([]api.Ins{{Op: api.OpIfeq}}), 0, 0)
	goesOn(t, method([]api.Ins{{Op: 240}, {Op: 240}}), 0, 1)
}

func TestMapAt(t *testing.T) {
	one := api.Map{At: 1, Locals: []string{"I"}, Stack: []string{"J", "N"}}
	two := api.Map{At: 3, Stack: []string{"LA;"}}
	again := api.Map{At: 1, Locals: []string{"N", "N"}}
	away := api.Map{At: -7, Locals: []string{"?"}}
	m := api.Method{Code: make([]api.Ins, 4), Maps: []api.Map{one, two, again, away}}
	for _, x := range []struct {
		at     int
		wanted api.Map
	}{{1, one}, {3, two}, {-7, away}} {
		if got, ok := flow.MapAt(m, x.at); !ok || !same(got, x.wanted) {
			t.Errorf("at %d: %v, %v", x.at, got, ok)
		}
	}
	for _, at := range append(beyond(4), 0, 2) {
		if got, ok := flow.MapAt(m, at); ok || !same(got, api.Map{}) {
			t.Errorf("at %d: %v, %v", at, got, ok)
		}
		if got, ok := flow.MapAt(api.Method{}, at); ok || !same(got, api.Map{}) {
			t.Errorf("none at %d: %v, %v", at, got, ok)
		}
	}
	// One that tells of nothing is there, too.
	if got, ok := flow.MapAt(method(nil, 5, 0), 0); !ok || !same(got, api.Map{}) {
		t.Errorf("%v, %v", got, ok)
	}
}
