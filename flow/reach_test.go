package flow_test

import (
	"math"
	"slices"
	"testing"

	"carpetbag/api"
	"carpetbag/flow"
)

// P18.1: what Reached answers.

func TestReachedOfNone(t *testing.T) {
	reaches(t, api.Method{})
	reaches(t, api.Method{Traps: []api.Trap{{From: 0, To: 1, At: 0}}})
	reaches(t, method([]api.Ins{}, 0))
}

func TestReachedWrittenOut(t *testing.T) {
	reaches(t, method(code(api.OpReturn)), 0)
	reaches(t, method(code(api.OpNop, api.OpNop, api.OpNop)), 0, 1, 2)
	reaches(t, method(code(api.OpNop, api.OpReturn, api.OpNop, api.OpReturn)), 0, 1)
	reaches(t, method(code(api.OpNop, 240, api.OpNop)), 0, 1, 2)
	// A loop, and what it can't be left to.
	reaches(t, method([]api.Ins{{}, {}, {Op: api.OpGoto, N: 1}, {}, {Op: api.OpReturn}}), 0, 1, 2)
	reaches(t, method([]api.Ins{{}, {Op: api.OpIfeq, N: 4}, {Op: api.OpGoto, N: 0}, {}, {Op: api.OpReturn}}), 0, 1, 2, 4)
	reaches(t, method([]api.Ins{{Op: api.OpGoto, N: 0}, {Op: api.OpGoto, N: 0}}), 0)
	// Over one that can't be come to, on and back.
	reaches(t, method([]api.Ins{{Op: api.OpGoto, N: 3}, {}, {Op: api.OpGoto, N: 5}, {Op: api.OpGoto, N: 2}, {}, {Op: api.OpReturn}}), 0, 2, 3, 5)
	// Codes that can't be come to may lead into one another.
	reaches(t, method([]api.Ins{{Op: api.OpReturn}, {Op: api.OpGoto, N: 2}, {Op: api.OpGoto, N: 1}}), 0)
	// Branches to no place.
	for _, n := range beyond(2) {
		reaches(t, method([]api.Ins{{Op: api.OpGoto, N: int64(n)}, {}}), 0)
		reaches(t, method([]api.Ins{{Op: api.OpIfeq, N: int64(n)}, {}}), 0, 1)
	}
	for _, op := range ends()[1:] {
		reaches(t, method([]api.Ins{{Op: op, N: 2}, {}, {}}), 0)
	}
}

func TestReachedByTraps(t *testing.T) {
	// 0 and 1 and 4 are come to, 2, 3, 5, 6 just by traps.
	c := []api.Ins{{}, {Op: api.OpGoto, N: 4}, {Op: api.OpReturn}, {Op: api.OpReturn}, {Op: api.OpReturn}, {}, {Op: api.OpReturn}}
	for _, x := range []struct {
		traps  []api.Trap
		wanted []int
	}{
		{nil, []int{0, 1, 4}},
		{[]api.Trap{{From: 0, To: 1, At: 2}}, []int{0, 1, 2, 4}},
		{[]api.Trap{{From: 1, To: 2, At: 2}}, []int{0, 1, 2, 4}},
		{[]api.Trap{{From: 4, To: 5, At: 5}}, []int{0, 1, 4, 5, 6}},
		{[]api.Trap{{From: 0, To: 7, At: 6}}, []int{0, 1, 4, 6}},
		{[]api.Trap{{From: 3, To: 5, At: 2}}, []int{0, 1, 2, 4}},
		// None within is come to.
		{[]api.Trap{{From: 2, To: 4, At: 2}}, []int{0, 1, 4}},
		{[]api.Trap{{From: 2, To: 4, At: 6}}, []int{0, 1, 4}},
		{[]api.Trap{{From: 5, To: 7, At: 5}}, []int{0, 1, 4}},
		// Nothing stands within.
		{[]api.Trap{{From: 0, To: 0, At: 2}}, []int{0, 1, 4}},
		{[]api.Trap{{From: 4, To: 4, At: 2}}, []int{0, 1, 4}},
		{[]api.Trap{{From: 5, To: 0, At: 2}}, []int{0, 1, 4}},
		{[]api.Trap{{From: 7, To: 9, At: 2}}, []int{0, 1, 4}},
		{[]api.Trap{{From: -3, To: 0, At: 2}}, []int{0, 1, 4}},
		{[]api.Trap{{From: math.MaxInt, To: math.MinInt, At: 2}}, []int{0, 1, 4}},
		// From and To beyond the row.
		{[]api.Trap{{From: -3, To: 1, At: 2}}, []int{0, 1, 2, 4}},
		{[]api.Trap{{From: 4, To: 99, At: 2}}, []int{0, 1, 2, 4}},
		{[]api.Trap{{From: math.MinInt, To: math.MaxInt, At: 2}}, []int{0, 1, 2, 4}},
		// They lead to no place.
		{[]api.Trap{{From: 0, To: 7, At: -1}, {From: 0, To: 7, At: 7}, {From: 0, To: 7, At: math.MinInt}, {From: 0, To: 7, At: math.MaxInt}}, []int{0, 1, 4}},
		// Into one another, in any order.
		{[]api.Trap{{From: 0, To: 1, At: 2}, {From: 2, To: 3, At: 3}, {From: 3, To: 4, At: 6}}, []int{0, 1, 2, 3, 4, 6}},
		{[]api.Trap{{From: 3, To: 4, At: 6}, {From: 2, To: 3, At: 3}, {From: 0, To: 1, At: 2}}, []int{0, 1, 2, 3, 4, 6}},
		{[]api.Trap{{From: 2, To: 3, At: 3}, {From: 3, To: 4, At: 2}}, []int{0, 1, 4}},
		{[]api.Trap{{From: 2, To: 4, At: 3}, {From: 3, To: 4, At: 2}, {From: 4, To: 5, At: 3}}, []int{0, 1, 2, 3, 4}},
		// To itself.
		{[]api.Trap{{From: 2, To: 3, At: 2}, {From: 0, To: 1, At: 0}}, []int{0, 1, 4}},
		// Of several from one place each.
		{[]api.Trap{{From: 0, To: 1, At: 2}, {From: 0, To: 2, At: 3}, {From: 0, To: 7, At: 5}}, []int{0, 1, 2, 3, 4, 5, 6}},
		{[]api.Trap{{From: 0, To: 1, At: 2}, {From: 0, To: 1, At: 2}}, []int{0, 1, 2, 4}},
	} {
		m := method(c)
		m.Traps = x.traps
		reaches(t, m, x.wanted...)
	}
}

// TestReachedOfLongCodes goes through far more places than calls may stand within one another.
func TestReachedOfLongCodes(t *testing.T) {
	n := 200000
	m := method(make([]api.Ins, n))
	all := make([]int, n)
	for i := range all {
		all[i] = i
	}
	reaches(t, m, all...)
	// From the end back, step by step: one of two.
	for i := range m.Code {
		m.Code[i] = api.Ins{Op: api.OpGoto, N: int64(i - 2)}
	}
	m.Code[0].N = int64(n - 1)
	odd := []int{0}
	for i := 1; i < n; i += 2 {
		odd = append(odd, i)
	}
	reaches(t, m, odd...)
	// From trap to trap.
	few := 3000
	m = method(make([]api.Ins, few))
	for i := range m.Code {
		m.Code[i].Op = api.OpReturn
		m.Traps = append(m.Traps, api.Trap{From: few - i - 1, To: few - i, At: few - i})
	}
	reaches(t, m, all[:few]...)
	slices.Reverse(m.Traps)
	reaches(t, m, all[:few]...)
	if l := flow.Reached(m); len(l) != few {
		t.Errorf("%d", len(l))
	}
}
