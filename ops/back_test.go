package ops_test

import (
	"bytes"
	"slices"
	"testing"

	"carpetbag/api"
	"carpetbag/ops"
)

// P13.2: there and back.

func TestThereAndBack(t *testing.T) {
	d := dice(1)
	for range 20000 {
		l := thrown(&d)
		code, e := ops.Encode(l)
		if e != api.OK {
			t.Fatalf("Encode of %v: %d", l, e)
		}
		back, e := ops.Decode(code)
		if e != api.OK || !slices.Equal(back, l) {
			t.Fatalf("%v is told as %v, %d", l, back, e)
		}
		again, e := ops.Encode(back)
		if e != api.OK || !bytes.Equal(again, code) {
			t.Fatalf("% d is told as % d, %d", code, again, e)
		}
	}
}

// TestEachNumberThereAndBack asks all numbers that each form may tell.
func TestEachNumberThereAndBack(t *testing.T) {
	for a := range 256 {
		for _, op := range slices.Concat(operations(formLocal), operations(formConst)) {
			both(t, []byte{op, byte(a)}, []api.Raw{{Op: op, A: a}})
		}
		both(t, []byte{16, byte(a)}, []api.Raw{{Op: 16, A: int(int8(a))}})
		for b := range 256 {
			both(t, []byte{132, byte(a), byte(b)}, []api.Raw{{Op: 132, A: a, B: int(int8(b))}})
			both(t, []byte{17, byte(a), byte(b)}, []api.Raw{{Op: 17, A: int(int16(a*256 + b))}})
			both(t, []byte{187, byte(a), byte(b)}, []api.Raw{{Op: 187, A: a*256 + b}})
		}
	}
}

func TestThrownCodes(t *testing.T) {
	d := dice(2)
	got := map[api.Errno]int{}
	for range 100000 {
		code, _ := modelEncode(thrown(&d))
		for range d.next(3) {
			code[d.next(len(code))] = byte(d.next(256))
		}
		got[read(t, code)]++
		got[read(t, code[:d.next(len(code))])]++
	}
	for _, e := range []api.Errno{api.OK, api.ErrForm, api.ErrShort, api.ErrRange} {
		if got[e] < 5000 {
			t.Errorf("but %d of the codes tell %d", got[e], e)
		}
	}
}

func TestThrownBytes(t *testing.T) {
	d := dice(3)
	values := slices.Concat(operations(formBranch), operations(formWide), []byte{0, 0, 0, 0, 1, 2, 3, 4, 5, 6, 8, 10, 16, 17, 21, 132, 188, 254, 255})
	got := map[api.Errno]int{}
	for range 200000 {
		code := make([]byte, d.next(14))
		for i := range code {
			code[i] = values[d.next(len(values))]
		}
		got[read(t, code)]++
	}
	for _, e := range []api.Errno{api.OK, api.ErrForm, api.ErrShort, api.ErrRange} {
		if got[e] < 5000 {
			t.Errorf("but %d of the codes tell %d", got[e], e)
		}
	}
}

func TestThrownRows(t *testing.T) {
	d := dice(4)
	edges := numbers()
	got := map[api.Errno]int{}
	for range 100000 {
		l := thrown(&d)
		for range d.next(3) {
			r := &l[d.next(len(l))]
			switch d.next(6) {
			case 0:
				r.At += d.next(5) - 2
			case 1:
				r.Op = byte(d.next(256))
				l = placed(l...)
			case 2:
				r.A = edges[d.next(len(edges))]
			case 3:
				r.B = edges[d.next(len(edges))]
			case 4, 5:
				r.A += d.next(5) - 2
			}
		}
		got[written(t, l)]++
	}
	for _, e := range []api.Errno{api.OK, api.ErrForm, api.ErrRange} {
		if got[e] < 1000 {
			t.Errorf("but %d of the rows tell %d", got[e], e)
		}
	}
}

// R6: what is handed in is neither changed nor kept, and what is answered is new memory.

func TestCodesAreNeitherChangedNorKept(t *testing.T) {
	row := append(eachBytes(), 240, 17, 255)
	code := row[:len(eachBytes())]
	one, _ := ops.Decode(code)
	two, _ := ops.Decode(code)
	for i := range one {
		one[i] = api.Raw{At: -1, Op: 240}
	}
	_ = append(one, api.Raw{Op: 240})
	if !bytes.Equal(row, append(eachBytes(), 240, 17, 255)) {
		t.Fatalf("what was handed in changed: % d", row)
	}
	clear(row)
	if !slices.Equal(two, each()) {
		t.Errorf("memory is shared: %v", two)
	}
}

func TestRowsAreNeitherChangedNorKept(t *testing.T) {
	row := append(each(), api.Raw{At: 9, Op: 240}, api.Raw{A: 7})
	l := row[:len(each())]
	one, _ := ops.Encode(l)
	two, _ := ops.Encode(l)
	for i := range one {
		one[i] = 0xee
	}
	_ = append(one, 1, 2, 3)
	if !slices.Equal(row, append(each(), api.Raw{At: 9, Op: 240}, api.Raw{A: 7})) {
		t.Fatalf("what was handed in changed: %v", row)
	}
	clear(row)
	if !bytes.Equal(two, eachBytes()) {
		t.Errorf("memory is shared: % d", two)
	}
}

// TestCallsDontDependOnOneAnother asks once more behind what is refused.
func TestCallsDontDependOnOneAnother(t *testing.T) {
	for range 3 {
		both(t, eachBytes(), each())
		refusesCode(t, []byte{240}, api.ErrForm)
		refusesCode(t, make([]byte, 5000), api.ErrLong)
		refusesRow(t, []api.Raw{{Op: 167, A: 1}}, api.ErrRange)
	}
}
