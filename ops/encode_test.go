package ops_test

import (
	"bytes"
	"math"
	"slices"
	"testing"

	"carpetbag/api"
)

// P13.1: what Encode answers.

func TestEncodeWrittenOut(t *testing.T) {
	encodes(t, each(), eachBytes())
	encodes(t, []api.Raw{{Op: 177}}, []byte{177})
	encodes(t, []api.Raw{{Op: 16, A: -128}, {At: 2, Op: 17, A: -32768}, {At: 5, Op: 178, A: 32768}}, []byte{16, 128, 17, 128, 0, 178, 128, 0})
}

// numbers are those at which some number stops fitting, with their neighbours.
func numbers() []int {
	l := []int{math.MinInt, math.MinInt + 1, math.MaxInt - 1, math.MaxInt}
	for _, v := range []int{0, 8, 10, 1 << 7, 1 << 8, 1 << 15, 1 << 16, 1 << 24, 1 << 31, 1 << 32, 1 << 48, 1 << 62} {
		l = append(l, v-2, v-1, v, v+1, v+2, -v-2, -v-1, -v, -v+1, -v+2)
	}
	return l
}

// TestWhatFits asks each operation, with numbers that just fit and just don't.
func TestWhatFits(t *testing.T) {
	for _, x := range []struct {
		form, least, most int // of A
		leastOfB, mostOfB int
	}{
		{formNone, 0, 0, 0, 0},
		{formLocal, 0, 255, 0, 0},
		{formByte, -128, 127, 0, 0},
		{formShort, -32768, 32767, 0, 0},
		{formConst, 0, 255, 0, 0},
		{formWide, 0, 65535, 0, 0},
		{formInc, 0, 255, -128, 127},
	} {
		for _, op := range operations(x.form) {
			for _, a := range numbers() {
				for _, b := range numbers() {
					l := []api.Raw{{Op: op, A: a, B: b}}
					if x.least <= a && a <= x.most && x.leastOfB <= b && b <= x.mostOfB {
						if written(t, l) != api.OK {
							t.Fatal("the model refuses it")
						}
						continue
					}
					refusesRow(t, l, api.ErrForm)
				}
			}
		}
	}
}

func TestKindsAreAsked(t *testing.T) {
	for _, a := range numbers() {
		for _, b := range numbers() {
			l := []api.Raw{{Op: 188, A: a, B: b}}
			if (a == 8 || a == 10) && b == 0 {
				encodes(t, l, []byte{188, byte(a)})
				continue
			}
			refusesRow(t, l, api.ErrForm)
		}
	}
}

// TestBranchesAreAskedNext has branches go everywhere: it isn't their form that is wrong.
func TestBranchesAreAskedNext(t *testing.T) {
	for _, op := range operations(formBranch) {
		for _, a := range append(numbers(), 3, 4, 5, 6, 7, 11) {
			l := []api.Raw{{Op: 0}, {At: 1, Op: 17, A: 5}, {At: 4, Op: op, A: a}, {At: 7, Op: 16}, {At: 9, Op: 177}}
			if slices.Contains([]int{0, 1, 4, 7, 9}, a) {
				encodes(t, l, []byte{0, 17, 0, 5, op, byte((a - 4) >> 8), byte(a - 4), 16, 0, 177})
			} else {
				refusesRow(t, l, api.ErrRange)
			}
			for _, b := range numbers() {
				if b != 0 {
					l[2].B = b
					refusesRow(t, l, api.ErrForm)
				}
			}
		}
	}
}

func TestNoOperationsAreWritten(t *testing.T) {
	for _, op := range operations(0) {
		refusesRow(t, []api.Raw{{Op: op}}, api.ErrForm)
		for i := range each() {
			l := each()
			l[i].Op = op
			refusesRow(t, l, api.ErrForm)
		}
		for n := range 4 {
			// Whatever the place behind it is told to be.
			refusesRow(t, []api.Raw{{Op: op}, {At: n, Op: 177}}, api.ErrForm)
		}
	}
}

// TestPlacesAreAsked turns each instruction's place, alone, and with all that stand behind it.
func TestPlacesAreAsked(t *testing.T) {
	for i := range each() {
		for _, by := range numbers() {
			if by == 0 {
				continue
			}
			l := each()
			l[i].At += by
			refusesRow(t, l, api.ErrForm)
			for j := i + 1; j < len(l); j++ {
				l[j].At += by
			}
			refusesRow(t, l, api.ErrForm)
		}
		refusesRow(t, slices.Insert(each(), i, each()[i]), api.ErrForm)
		if i+1 < len(each()) {
			refusesRow(t, slices.Delete(each(), i, i+1), api.ErrForm)
			l := each()
			l[i], l[i+1] = l[i+1], l[i]
			refusesRow(t, l, api.ErrForm)
		}
	}
	for op := range 256 {
		if modelForm(op) == 0 {
			continue
		}
		for n := range 6 {
			l := []api.Raw{{Op: byte(op)}, {At: n, Op: 177}}
			if modelForm(op) == formArray {
				l[0].A = 8
			}
			if n != modelLen(op) {
				refusesRow(t, l, api.ErrForm)
			} else if written(t, l) != api.OK {
				t.Fatal("the model refuses it")
			}
		}
	}
}

// rowOf is nops, with others in their stead from a place on, of n bytes in all; At of the others is by how much theirs is wrong.
func rowOf(n, from int, others ...api.Raw) []api.Raw {
	l := make([]api.Raw, 0, n)
	for len(l) < from {
		l = append(l, api.Raw{At: len(l)})
	}
	at := from
	for _, r := range others {
		r.At += at
		l = append(l, r)
		at += modelLen(int(r.Op))
	}
	for ; at < n; at++ {
		l = append(l, api.Raw{At: at})
	}
	return l
}

func TestLongRows(t *testing.T) {
	for _, n := range []int{0, 1, 4095, 4096} {
		encodes(t, rowOf(n, 0), make([]byte, n))
	}
	for _, n := range []int{4097, 4098, 8192, 100000} {
		refusesRow(t, rowOf(n, 0), api.ErrLong)
	}
	for _, op := range operations(formWide) {
		// Of three bytes each, 1365 are 4095 bytes.
		l := placed(slices.Repeat([]api.Raw{{Op: op, A: 513}}, 1365)...)
		encodes(t, l, bytes.Repeat([]byte{op, 2, 1}, 1365))
		refusesRow(t, placed(append(l, l[0])...), api.ErrLong)
		refusesRow(t, placed(append(l, api.Raw{}, api.Raw{})...), api.ErrLong)
		if written(t, placed(append(l, api.Raw{})...)) != api.OK {
			t.Error("the model refuses it")
		}
	}
}

func TestLongBranches(t *testing.T) {
	for _, from := range []int{0, 1, 2000, 4092, 4093} {
		for _, to := range []int{0, 1, 2, 3, 1999, 2000, 2003, 4090, 4091, 4092, 4093, 4094, 4095, 4096, 4097} {
			written(t, rowOf(4096, from, api.Raw{Op: 167, A: to}))
		}
	}
	first := func(to int) []api.Raw { return rowOf(40000, 0, api.Raw{Op: 167, A: to}) }
	last := func(to int) []api.Raw { return rowOf(40000, 39997, api.Raw{Op: 167, A: to}) }
	// How far away a branch goes isn't what is wrong, beyond what two bytes tell neither.
	for _, to := range []int{0, 3, 4, 4096, 32767, 32768, 39999} {
		refusesRow(t, first(to), api.ErrLong)
	}
	for _, to := range []int{0, 1, 7228, 7229, 39996, 39997} {
		refusesRow(t, last(to), api.ErrLong)
	}
	for _, to := range []int{1, 2, -1, 40000, 65536, -25536} {
		refusesRow(t, first(to), api.ErrRange)
	}
	for _, to := range []int{39998, 39999, 40000, -1, -25536, 105533} {
		refusesRow(t, last(to), api.ErrRange)
	}
}

// TestWrongRowsFirst has several faults in one row: ErrForm is told ahead of ErrRange, that ahead of ErrLong.
func TestWrongRowsFirst(t *testing.T) {
	astray := api.Raw{Op: 153, A: -1}
	for _, wrong := range []api.Raw{{Op: 240}, {Op: 0, A: 1}, {Op: 0, B: 1}, {Op: 21, A: 256}, {Op: 16, A: 128}, {Op: 132, B: 128}, {Op: 188, A: 9}, {Op: 167, B: 1}, {Op: 177, At: 1}} {
		for _, n := range []int{6, 4096, 5000} {
			refusesRow(t, rowOf(n, 0, wrong), api.ErrForm)
			refusesRow(t, rowOf(n, n-3, wrong), api.ErrForm)
			refusesRow(t, rowOf(n, 0, astray, wrong), api.ErrForm)
			refusesRow(t, rowOf(n, 0, wrong, astray), api.ErrForm)
			refusesRow(t, rowOf(n, n-6, wrong, astray), api.ErrForm)
			refusesRow(t, rowOf(n, n-6, astray, wrong), api.ErrForm)
		}
	}
	for _, n := range []int{4, 4096, 4097, 5000} {
		refusesRow(t, rowOf(n, 0, astray), api.ErrRange)
		refusesRow(t, rowOf(n, n-3, astray), api.ErrRange)
		refusesRow(t, rowOf(n, n-3, api.Raw{Op: 153, A: n}), api.ErrRange)
	}
	for _, n := range []int{4097, 5000} {
		refusesRow(t, rowOf(n, 0, api.Raw{Op: 153}), api.ErrLong)
		refusesRow(t, rowOf(n, n-3, api.Raw{Op: 153}), api.ErrLong)
	}
}

func TestTurnedRows(t *testing.T) {
	got := map[api.Errno]int{}
	for i := range each() {
		for _, v := range append(numbers(), 1, 13, 16, 19, 22, 24, 26, 29, 32) {
			l := each()
			l[i].A = v
			got[written(t, l)]++
			l = each()
			l[i].B = v
			got[written(t, l)]++
			l = each()
			l[i].At = v
			got[written(t, l)]++
		}
		for op := range 256 {
			l := each()
			l[i].Op = byte(op)
			got[written(t, l)]++
			got[written(t, placed(l...))]++
		}
	}
	for _, e := range []api.Errno{api.OK, api.ErrForm, api.ErrRange} {
		if got[e] < 100 {
			t.Errorf("but %d of the rows tell %d", got[e], e)
		}
	}
}
