package pool_test

import (
	"bytes"
	"math"
	"slices"
	"testing"

	"carpetbag/api"
	"carpetbag/pool"
)

// P11.1: Text, Class and Member.

func TestTellsWrittenOut(t *testing.T) {
	texts := map[int]string{1: "a/B", 3: "run", 4: "(I)V", 12: "\xc0\x80ä"}
	for at := -2; at < len(each())+2; at++ {
		s, ok := pool.Text(each(), at)
		if wanted, there := texts[at]; s != wanted || ok != there {
			t.Errorf("Text at %d: %q, %v", at, s, ok)
		}
		s, ok = pool.Class(each(), at)
		if at == 2 && (s != "a/B" || !ok) || at != 2 && (s != "" || ok) {
			t.Errorf("Class at %d: %q, %v", at, s, ok)
		}
		for tag := -2; tag < 20; tag++ {
			var wanted member
			if at == 6 && tag == api.TagMethod || at == 11 && tag == api.TagField {
				wanted = member{"a/B", "run", "(I)V", true}
			}
			if got := memberAt(each(), at, tag); got != wanted {
				t.Errorf("Member at %d, of %d: %v, not %v", at, tag, got, wanted)
			}
		}
	}
	tells(t, each())
}

func TestEmptyTextsAreTold(t *testing.T) {
	l := []api.Const{{}, {Tag: 1}, {Tag: 7, A: 1}, {Tag: 12, A: 1, B: 1}, {Tag: 9, A: 2, B: 3}}
	if s, ok := pool.Text(l, 1); s != "" || !ok {
		t.Error(s, ok)
	}
	if s, ok := pool.Class(l, 2); s != "" || !ok {
		t.Error(s, ok)
	}
	if got := memberAt(l, 4, 9); got != (member{ok: true}) {
		t.Error(got)
	}
}

func TestNothingIsTold(t *testing.T) {
	for _, l := range [][]api.Const{nil, {}, {{}}, {{}, {Tag: 3, N: 1}}, each()[:1]} {
		tells(t, l)
		for _, at := range places(len(l)) {
			if s, ok := pool.Text(l, at); s != "" || ok {
				t.Fatalf("Text at %d: %q", at, s)
			}
			if s, ok := pool.Class(l, at); s != "" || ok {
				t.Fatalf("Class at %d: %q", at, s)
			}
			for _, tag := range []int{math.MinInt, -1, 0, 9, 10, 12, math.MaxInt} {
				if got := memberAt(l, at, tag); got != (member{}) {
					t.Fatalf("Member at %d, of %d: %v", at, tag, got)
				}
			}
		}
	}
}

// TestPlaceZeroIsNone asks pools with something at place 0, which may not be.
func TestPlaceZeroIsNone(t *testing.T) {
	if s, ok := pool.Text([]api.Const{{Tag: 1, S: "zero"}}, 0); s != "" || ok {
		t.Errorf("Text at 0: %q", s)
	}
	for _, l := range [][]api.Const{
		{{Tag: 7, A: 1}, {Tag: 1, S: "t"}},
		{{Tag: 1, S: "zero"}, {Tag: 7}},
	} {
		for at := range l {
			if s, ok := pool.Class(l, at); s != "" || ok {
				t.Errorf("Class at %d of %v: %q", at, l, s)
			}
		}
	}
	whole := []api.Const{{}, {Tag: 1, S: "t"}, {Tag: 7, A: 1}, {Tag: 12, A: 1, B: 1}, {Tag: 10, A: 2, B: 3}}
	for at := 1; at < len(whole); at++ {
		// What stands at a place is moved to 0, and with it what tells it.
		l := slices.Clone(whole)
		l[0] = l[at]
		for i := range l {
			if l[i].A == at {
				l[i].A = 0
			}
			if l[i].B == at {
				l[i].B = 0
			}
		}
		for i := range l {
			if got := memberAt(l, i, 10); got.ok && at != 4 || i == 0 && got.ok {
				t.Errorf("Member at %d of %v: %v", i, l, got)
			}
		}
		tells(t, l)
	}
}

// TestWhatIsMissing turns each field on the way to a member in turn: beside false nothing is told.
func TestWhatIsMissing(t *testing.T) {
	whole := func() []api.Const {
		return []api.Const{{}, {Tag: 1, S: "c"}, {Tag: 1, S: "n"}, {Tag: 1, S: "d"}, {Tag: 7, A: 1}, {Tag: 12, A: 2, B: 3}, {Tag: 9, A: 4, B: 5}}
	}
	if got := memberAt(whole(), 6, 9); got != (member{"c", "n", "d", true}) {
		t.Fatal(got)
	}
	for at, c := range whole() {
		for _, wrong := range []int{-1, 0, 4, 5, 6, 7, 65537, math.MinInt, math.MaxInt} {
			l := whole()
			l[at].A = wrong
			tells(t, l)
			if got := memberAt(l, 6, 9); at > 3 && wrong != c.A && got != (member{}) {
				t.Errorf("with %d as A of %d: %v", wrong, at, got)
			}
			l = whole()
			l[at].B = wrong
			tells(t, l)
			if got := memberAt(l, 6, 9); at > 4 && wrong != c.B && got != (member{}) {
				t.Errorf("with %d as B of %d: %v", wrong, at, got)
			}
		}
		for tag := -1; tag < 15; tag++ {
			l := whole()
			l[at].Tag = tag
			tells(t, l)
			if got := memberAt(l, 6, 9); at > 0 && tag != c.Tag && got != (member{}) {
				t.Errorf("with the Tag %d at %d: %v", tag, at, got)
			}
		}
	}
}

// TestToldOfWhatMayNotBe asks pools that may not be for what is there all the same.
func TestToldOfWhatMayNotBe(t *testing.T) {
	l := []api.Const{{Tag: 99}, {Tag: 1, S: "\x00", N: 4}, {Tag: 5}, {Tag: 7, A: 1, B: -7, S: "x"}, {Tag: -1}, {Tag: 12, A: 1, B: 1, N: 5}, {Tag: 10, A: 3, B: 5, S: "y"}, {Tag: 5}}
	makesNone(t, l)
	tells(t, l)
	if s, ok := pool.Text(l, 1); s != "\x00" || !ok {
		t.Error(s, ok)
	}
	if s, ok := pool.Class(l, 3); s != "\x00" || !ok {
		t.Error(s, ok)
	}
	if got := memberAt(l, 6, 10); got != (member{"\x00", "\x00", "\x00", true}) {
		t.Error(got)
	}
	far := append(make([]api.Const, 3000), api.Const{Tag: 1, S: "far"}, api.Const{Tag: 7, A: 3000})
	if s, ok := pool.Text(far, 3000); s != "far" || !ok {
		t.Error(s, ok)
	}
	if s, ok := pool.Class(far, 3001); s != "far" || !ok {
		t.Error(s, ok)
	}
}

func TestThrownPoolsAreTold(t *testing.T) {
	d := dice(4)
	told, not := 0, 0
	for range 3000 {
		l := thrown(&d)
		for range d.next(6) {
			c := &l[d.next(len(l))]
			switch d.next(3) {
			case 0:
				c.Tag = append(tags(), 0, 2)[d.next(10)]
			case 1:
				c.A = d.next(len(l)+2) - 1
			case 2:
				c.B = d.next(len(l)+2) - 1
			}
		}
		tells(t, l)
		for at, c := range l {
			switch {
			case memberAt(l, at, c.Tag).ok:
				told++
			case c.Tag == 9 || c.Tag == 10:
				not++
			}
		}
	}
	if told < 1000 || not < 1000 {
		t.Errorf("but %d members were told, and %d not", told, not)
	}
}

// R6: what is handed in is neither changed nor kept, and what is answered is new memory.

func TestPoolsAreNeitherChangedNorKept(t *testing.T) {
	row := with(each(), api.Const{Tag: 99, A: 1}, api.Const{Tag: 3, N: 4})
	l := row[:len(each())]
	one, _ := pool.Bytes(l)
	two, _ := pool.Bytes(l)
	tells(t, l)
	pool.Check(l)
	if !slices.Equal(row, with(each(), api.Const{Tag: 99, A: 1}, api.Const{Tag: 3, N: 4})) {
		t.Fatalf("what was handed in changed: %v", row)
	}
	for i := range one {
		one[i] = 0xee
	}
	_ = append(one, 1, 2, 3)
	clear(row)
	if !bytes.Equal(two, eachBytes()) {
		t.Errorf("memory is shared: % x", two)
	}
}

func TestParsedPoolsAreNewMemory(t *testing.T) {
	row := append(eachBytes(), "and more"...)
	b := row[:len(eachBytes())]
	one, _, _ := pool.Parse(b)
	two, _, _ := pool.Parse(b)
	for i := range one {
		one[i] = api.Const{Tag: 99}
	}
	_ = append(one, api.Const{Tag: 99})
	if string(row) != string(eachBytes())+"and more" {
		t.Fatalf("what was handed in changed: % x", row)
	}
	clear(row)
	if !slices.Equal(two, each()) {
		t.Errorf("memory is shared: %v", two)
	}
}

func TestSpareRoomIsNotRead(t *testing.T) {
	row := eachBytes()
	for n := range row {
		refuses(t, row[:n], api.ErrShort)
	}
	if !bytes.Equal(row, eachBytes()) {
		t.Errorf("what was handed in changed: % x", row)
	}
}
