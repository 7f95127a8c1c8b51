package ops_test

import (
	"bytes"
	"slices"
	"testing"

	"carpetbag/api"
	"carpetbag/ops"
)

// each is a row of instructions of each form.
func each() []api.Raw {
	return []api.Raw{
		{At: 0, Op: 0},
		{At: 1, Op: 21, A: 200},
		{At: 3, Op: 16, A: -2},
		{At: 5, Op: 17, A: -300},
		{At: 8, Op: 18, A: 255},
		{At: 10, Op: 182, A: 65535},
		{At: 13, Op: 153, A: 19},
		{At: 16, Op: 167, A: 1},
		{At: 19, Op: 132, A: 254, B: -128},
		{At: 22, Op: 188, A: 10},
		{At: 24, Op: 188, A: 8},
		{At: 26, Op: 199, A: 26},
		{At: 29, Op: 177},
	}
}

// eachBytes are the bytes of each, written out.
func eachBytes() []byte {
	return []byte{
		0,
		21, 200,
		16, 254,
		17, 254, 212,
		18, 255,
		182, 255, 255,
		153, 0, 6,
		167, 255, 241,
		132, 254, 128,
		188, 10,
		188, 8,
		199, 0, 0,
		177,
	}
}

// placed are instructions with the places that they have behind one another.
func placed(l ...api.Raw) []api.Raw {
	l = slices.Clone(l)
	at := 0
	for i := range l {
		l[i].At = at
		at += modelLen(int(l[i].Op))
	}
	return l
}

// start is a row's beginning, to tell it in a fault's text.
func start[T any](l []T) []T { return l[:min(len(l), 12)] }

// decodes asks whether Decode tells a code's instructions, whatever stands in its spare room.
func decodes(t testing.TB, code []byte, wanted []api.Raw) {
	t.Helper()
	whole := bytes.Clone(code)
	l, e := ops.Decode(code)
	if e != api.OK || !slices.Equal(l, wanted) {
		t.Fatalf("Decode of % d (%d bytes): %v, %d, not %v", start(code), len(code), start(l), e, start(wanted))
	}
	if !bytes.Equal(code, whole) {
		t.Fatal("what was handed in changed")
	}
}

// refusesCode asks whether Decode refuses a code.
func refusesCode(t testing.TB, code []byte, wanted api.Errno) {
	t.Helper()
	whole := bytes.Clone(code)
	if l, e := ops.Decode(code); len(l) != 0 || e != wanted {
		t.Fatalf("Decode of % d (%d bytes): %v, %d, not %d", start(code), len(code), start(l), e, wanted)
	}
	if !bytes.Equal(code, whole) {
		t.Fatal("what was handed in changed")
	}
}

// encodes asks whether Encode makes the bytes of instructions.
func encodes(t testing.TB, l []api.Raw, wanted []byte) {
	t.Helper()
	whole := slices.Clone(l)
	b, e := ops.Encode(l)
	if e != api.OK || !bytes.Equal(b, wanted) {
		t.Fatalf("Encode of %v (%d): % d, %d, not % d", start(l), len(l), start(b), e, start(wanted))
	}
	if !slices.Equal(l, whole) {
		t.Fatal("what was handed in changed")
	}
}

// refusesRow asks whether Encode refuses instructions.
func refusesRow(t testing.TB, l []api.Raw, wanted api.Errno) {
	t.Helper()
	whole := slices.Clone(l)
	if b, e := ops.Encode(l); len(b) != 0 || e != wanted {
		t.Fatalf("Encode of %v (%d): % d, %d, not %d", start(l), len(l), start(b), e, wanted)
	}
	if !slices.Equal(l, whole) {
		t.Fatal("what was handed in changed")
	}
}

// both asks whether a code and its instructions are told of each other.
func both(t testing.TB, code []byte, l []api.Raw) {
	t.Helper()
	decodes(t, code, l)
	encodes(t, l, code)
}

// read holds Decode against the model and, of what it tells, Encode against the code; it answers the error.
func read(t testing.TB, code []byte) api.Errno {
	t.Helper()
	l, e := modelDecode(code)
	if e != api.OK {
		refusesCode(t, code, e)
		return e
	}
	both(t, code, l)
	return e
}

// written holds Encode against the model and, of what it makes, Decode against the instructions; it answers the error.
func written(t testing.TB, l []api.Raw) api.Errno {
	t.Helper()
	code, e := modelEncode(l)
	if e != api.OK {
		refusesRow(t, l, e)
		return e
	}
	both(t, code, l)
	return e
}

// dice tells numbers that look as if thrown, the same ones each time.
type dice uint64

func (d *dice) next(below int) int {
	*d = *d*6364136223846793005 + 1442695040888963407
	return int(uint64(*d)>>33) % below
}

// thrown is a row of instructions that may be.
func thrown(d *dice) []api.Raw {
	l := make([]api.Raw, 1+d.next(12))
	for i := range l {
		some := operations(1 + d.next(9))
		r := api.Raw{Op: some[d.next(len(some))]}
		switch modelForm(int(r.Op)) {
		case formLocal, formConst:
			r.A = d.next(256)
		case formByte:
			r.A = d.next(256) - 128
		case formShort:
			r.A = d.next(65536) - 32768
		case formWide:
			r.A = d.next(65536)
		case formInc:
			r.A, r.B = d.next(256), d.next(256)-128
		case formArray:
			r.A = 8 + 2*d.next(2)
		}
		l[i] = r
	}
	l = placed(l...)
	for i := range l {
		if modelForm(int(l[i].Op)) == formBranch {
			l[i].A = l[d.next(len(l))].At
		}
	}
	return l
}
