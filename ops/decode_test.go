package ops_test

import (
	"bytes"
	"slices"
	"testing"

	"carpetbag/api"
	"carpetbag/ops"
)

// P13.1: what Decode answers.

func TestExample(t *testing.T) {
	both(t, []byte{0x84, 1, 255}, []api.Raw{{At: 0, Op: api.OpIinc, A: 1, B: -1}})
}

func TestNothing(t *testing.T) {
	both(t, nil, nil)
	both(t, []byte{}, []api.Raw{})
}

func TestDecodeWrittenOut(t *testing.T) {
	decodes(t, eachBytes(), each())
	decodes(t, []byte{16, 128, 16, 127, 16, 0, 16, 255}, []api.Raw{{Op: 16, A: -128}, {At: 2, Op: 16, A: 127}, {At: 4, Op: 16}, {At: 6, Op: 16, A: -1}})
	decodes(t, []byte{17, 128, 0, 17, 127, 255, 17, 1, 2}, []api.Raw{{Op: 17, A: -32768}, {At: 3, Op: 17, A: 32767}, {At: 6, Op: 17, A: 258}})
	decodes(t, []byte{178, 128, 0, 20, 1, 2, 18, 128, 21, 255}, []api.Raw{{Op: 178, A: 32768}, {At: 3, Op: 20, A: 258}, {At: 6, Op: 18, A: 128}, {At: 8, Op: 21, A: 255}})
	decodes(t, []byte{132, 128, 127, 132, 0, 128}, []api.Raw{{Op: 132, A: 128, B: 127}, {At: 3, Op: 132, B: -128}})
}

func TestWrongFirst(t *testing.T) {
	for _, x := range []struct {
		code []byte
		e    api.Errno
	}{
		{[]byte{11}, api.ErrForm},
		{[]byte{240}, api.ErrForm},
		{[]byte{255}, api.ErrForm},
		{[]byte{0, 0, 240}, api.ErrForm},
		{[]byte{240, 0, 0}, api.ErrForm},
		{[]byte{0, 240, 0}, api.ErrForm},
		{[]byte{17, 1}, api.ErrShort},
		{[]byte{0, 17}, api.ErrShort},
		{[]byte{17, 240}, api.ErrShort},        // there a byte is no operation
		{[]byte{132, 255}, api.ErrShort},       // nor there
		{[]byte{240, 17}, api.ErrForm},         // ahead of what is cut short
		{[]byte{188}, api.ErrShort},            // a kind isn't asked where it is missing
		{[]byte{188, 9}, api.ErrForm},          // a wrong kind
		{[]byte{188, 9, 17, 1}, api.ErrForm},   // ahead of what is cut short
		{[]byte{188, 9, 240}, api.ErrForm},     // ahead of what is no operation
		{[]byte{188, 8, 17, 1}, api.ErrShort},  // behind a right one
		{[]byte{188, 8, 188, 0}, api.ErrForm},  // behind a right one
		{[]byte{167, 0, 1}, api.ErrRange},      // into itself
		{[]byte{167, 0, 3}, api.ErrRange},      // to the end
		{[]byte{167, 0, 1, 240}, api.ErrForm},  // a branch is asked behind all else
		{[]byte{167, 0, 1, 17}, api.ErrShort},  // a branch is asked behind all else
		{[]byte{167, 0, 1, 188}, api.ErrShort}, // a branch is asked behind all else
		{[]byte{167, 0, 1, 188, 7}, api.ErrForm},
		{[]byte{240, 167, 0, 1}, api.ErrForm},
		{[]byte{167, 0, 3, 240}, api.ErrForm}, // where it goes there is no operation
		{[]byte{167, 0, 3, 17}, api.ErrShort}, // where it goes there is one cut short
		{[]byte{167, 0}, api.ErrShort},
		{[]byte{167}, api.ErrShort},
	} {
		refusesCode(t, x.code, x.e)
		if _, e := modelDecode(x.code); e != x.e {
			t.Errorf("the model tells %d of % d, not %d", e, x.code, x.e)
		}
	}
}

// TestNoOperations lays each byte that is none alone, first, last, in the middle, and as a number.
func TestNoOperations(t *testing.T) {
	none := operations(0)
	if len(none) != 256-93 {
		t.Fatalf("there are %d", len(none))
	}
	for _, op := range none {
		refusesCode(t, []byte{op}, api.ErrForm)
		refusesCode(t, append([]byte{op}, eachBytes()...), api.ErrForm)
		refusesCode(t, append(eachBytes(), op), api.ErrForm)
		for _, r := range each() {
			refusesCode(t, slices.Insert(eachBytes(), r.At, op), api.ErrForm)
		}
		refusesCode(t, []byte{op, 17, 1}, api.ErrForm)
		refusesCode(t, []byte{17, op}, api.ErrShort)
		refusesCode(t, []byte{132, op}, api.ErrShort)
		refusesCode(t, []byte{178, op}, api.ErrShort)
		refusesCode(t, []byte{0, 153, op}, api.ErrShort)
		decodes(t, []byte{18, op, 178, op, op}, []api.Raw{{Op: 18, A: int(op)}, {At: 2, Op: 178, A: 257 * int(op)}})
	}
}

// TestCutShort cuts instructions of each operation at every place.
func TestCutShort(t *testing.T) {
	for op := range 256 {
		for n := range modelLen(op) {
			if n == 0 {
				continue
			}
			for _, ahead := range [][]byte{nil, {0}, {188, 8}, eachBytes()} {
				for _, x := range []byte{0, 8, 9, 10, 240, 255} {
					code := append(append(bytes.Clone(ahead), byte(op)), bytes.Repeat([]byte{x}, n-1)...)
					refusesCode(t, code, api.ErrShort)
				}
			}
		}
	}
	starts := map[int]bool{len(eachBytes()): true}
	for _, r := range each() {
		starts[r.At] = true
	}
	for n := range eachBytes() {
		switch {
		case !starts[n]:
			refusesCode(t, eachBytes()[:n], api.ErrShort)
		case n > 13 && n <= 19: // the branch to 19 is there, and 19 isn't
			refusesCode(t, eachBytes()[:n], api.ErrRange)
		default:
			read(t, eachBytes()[:n])
		}
	}
}

func TestKindsOfArrays(t *testing.T) {
	for kind := range 256 {
		for _, ahead := range [][]byte{nil, {0, 0}, {21, 8}} {
			code := append(bytes.Clone(ahead), 188, byte(kind), 177)
			if kind != 8 && kind != 10 {
				refusesCode(t, code, api.ErrForm)
				refusesCode(t, code[:len(code)-1], api.ErrForm)
				continue
			}
			l, e := ops.Decode(code)
			if r := l[len(l)-2]; e != api.OK || r != (api.Raw{At: len(ahead), Op: 188, A: kind}) {
				t.Errorf("of kind %d: %v, %d", kind, r, e)
			}
		}
	}
}

// branch are the bytes of a branch at a place that goes elsewhere.
func branch(op byte, from, to int) []byte {
	return []byte{op, byte((to - from) >> 8), byte(to - from)}
}

// TestBranches has a branch of each operation in the midst of instructions go everywhere.
func TestBranches(t *testing.T) {
	for _, op := range operations(formBranch) {
		ahead := []byte{0, 17, 1, 2, 21, 7}
		behind := []byte{16, 3, 188, 10, 132, 1, 1, 177}
		places := []int{0, 1, 4, 6, 9, 11, 13, 16}
		from := len(ahead)
		end := from + 3 + len(behind)
		for to := -40; to < 60; to++ {
			code := slices.Concat(ahead, branch(op, from, to), behind)
			if !slices.Contains(places, to) {
				refusesCode(t, code, api.ErrRange)
				continue
			}
			if read(t, code) != api.OK {
				t.Fatal("the model refuses it")
			}
			l, _ := ops.Decode(code)
			if r := l[slices.Index(places, from)]; r != (api.Raw{At: from, Op: op, A: to}) {
				t.Errorf("to %d: %v", to, r)
			}
		}
		for _, to := range []int{from - 32768, from - 32767, -1, from + 1, from + 2, end - 2, end, end + 1, 4096, from + 32766, from + 32767} {
			refusesCode(t, slices.Concat(ahead, branch(op, from, to), behind), api.ErrRange)
		}
		decodes(t, []byte{op, 0, 0}, []api.Raw{{Op: op}})
		refusesCode(t, []byte{op, 0, 3}, api.ErrRange)
		refusesCode(t, []byte{op, 255, 255}, api.ErrRange)
		decodes(t, []byte{op, 0, 3, 177}, []api.Raw{{Op: op, A: 3}, {At: 3, Op: 177}})
		decodes(t, []byte{177, op, 255, 255}, []api.Raw{{Op: 177}, {At: 1, Op: op}})
	}
}

// TestBranchesOfAllDistances asks each distance that two bytes tell, of a code as long as may be.
func TestBranchesOfAllDistances(t *testing.T) {
	for _, from := range []int{0, 1, 2048, 4092, 4093} {
		code := make([]byte, 4096)
		for to := from - 32768; to <= from+32767; to++ {
			if to < -3 || to > 4099 {
				if to%97 != 0 && to != from-32768 && to != from+32767 {
					continue
				}
			} else if 8 < to && to < 4080 && to%16 != 0 && (to < from-4 || to > from+4) {
				continue
			}
			copy(code[from:], branch(167, from, to))
			l, e := ops.Decode(code)
			isPlace := 0 <= to && to < 4096 && to != from+1 && to != from+2
			switch {
			case !isPlace && (e != api.ErrRange || len(l) != 0):
				t.Fatalf("from %d to %d: %d", from, to, e)
			case isPlace && (e != api.OK || len(l) != 4094 || l[from] != (api.Raw{At: from, Op: 167, A: to})):
				t.Fatalf("from %d to %d: %d", from, to, e)
			}
		}
	}
}

// TestOnlyOneBranchIsWrong lays a wrong one among right ones.
func TestOnlyOneBranchIsWrong(t *testing.T) {
	for wrong := range 20 {
		var code []byte
		for i := range 20 {
			to := 3 * (19 - i)
			if i == wrong {
				to++
			}
			code = append(code, branch(153, 3*i, to)...)
		}
		refusesCode(t, code, api.ErrRange)
		code[3*wrong+2]--
		if read(t, code) != api.OK {
			t.Fatal("the model refuses it")
		}
	}
}

func TestLongCodes(t *testing.T) {
	nops := func(n int) []byte { return make([]byte, n) }
	for _, n := range []int{0, 1, 4095, 4096} {
		decodes(t, nops(n), placed(make([]api.Raw, n)...))
	}
	for _, n := range []int{4097, 4098, 8192, 65536, 1 << 20} {
		refusesCode(t, nops(n), api.ErrLong)
	}
	for _, last := range [][]byte{{240}, {17}, {188, 9}, {167, 0, 1}, {255, 255}} {
		// Too long a code is told ahead of all else, wherever that stands.
		refusesCode(t, append(nops(4097-len(last)), last...), api.ErrLong)
		refusesCode(t, append(bytes.Clone(last), nops(4097-len(last))...), api.ErrLong)
		if read(t, append(nops(4096-len(last)), last...)) == api.OK {
			t.Error("nothing is wrong with it")
		}
	}
	for _, op := range []byte{17, 132, 178, 153} {
		// Of three bytes each a code of MaxCode ends within one.
		code := bytes.Repeat([]byte{op, 0, 0}, 1366)
		refusesCode(t, code[:4096], api.ErrShort)
		refusesCode(t, code[:4097], api.ErrLong)
		refusesCode(t, code, api.ErrLong)
		if read(t, code[:4095]) != api.OK || read(t, append(code[:4095:4095], 177)) != api.OK {
			t.Error("the model refuses it")
		}
	}
}

// TestSpareRoomIsNotRead cuts a code out of a longer one.
func TestSpareRoomIsNotRead(t *testing.T) {
	row := eachBytes()
	for n := range row {
		read(t, row[:n])
		if !bytes.Equal(row, eachBytes()) {
			t.Fatalf("what was handed in changed: % d", row)
		}
	}
	refusesCode(t, []byte{17, 1, 2}[:2], api.ErrShort)
	refusesCode(t, []byte{188, 8}[:1], api.ErrShort)
	refusesCode(t, []byte{167, 0, 3, 0}[:3], api.ErrRange)
}

func TestShortCodes(t *testing.T) {
	edges := []byte{0, 1, 2, 3, 8, 10, 127, 128, 177, 240, 254, 255}
	got := map[api.Errno]int{}
	for a := range 256 {
		got[read(t, []byte{byte(a)})]++
		for b := range 256 {
			got[read(t, []byte{byte(a), byte(b)})]++
			for _, c := range edges {
				got[read(t, []byte{byte(a), byte(b), c})]++
			}
		}
	}
	for _, e := range []api.Errno{api.OK, api.ErrForm, api.ErrShort, api.ErrRange} {
		if got[e] < 1000 {
			t.Errorf("but %d of the codes tell %d", got[e], e)
		}
	}
}

func TestTurnedBytes(t *testing.T) {
	got := map[api.Errno]int{}
	for at := range eachBytes() {
		for x := range 256 {
			code := eachBytes()
			code[at] = byte(x)
			got[read(t, code)]++
			for n := range code {
				read(t, code[:n])
			}
		}
		for until := at; until <= len(eachBytes()); until++ {
			read(t, slices.Delete(eachBytes(), at, until))
		}
	}
	for _, e := range []api.Errno{api.OK, api.ErrForm, api.ErrRange} {
		if got[e] < 100 {
			t.Errorf("but %d of the codes tell %d", got[e], e)
		}
	}
}
