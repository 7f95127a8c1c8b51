package pool_test

import (
	"bytes"
	"math"
	"slices"
	"strings"
	"testing"

	"carpetbag/api"
	"carpetbag/pool"
)

// P11.1: pools, and their bytes.

func TestExample(t *testing.T) {
	b, e := pool.Bytes([]api.Const{{}})
	if e != api.OK || !bytes.Equal(b, []byte{0, 1}) {
		t.Errorf("% x, %d", b, e)
	}
}

func TestWrittenOut(t *testing.T) {
	for _, x := range []struct {
		l []api.Const
		b string
	}{
		{[]api.Const{{}}, "\x00\x01"},
		{[]api.Const{{}, {Tag: 1}}, "\x00\x02\x01\x00\x00"},
		{[]api.Const{{}, {Tag: 1, S: "x"}}, "\x00\x02\x01\x00\x01x"},
		{[]api.Const{{}, {Tag: 3, N: -1}}, "\x00\x02\x03\xff\xff\xff\xff"},
		{[]api.Const{{}, {Tag: 5, N: 258}, {}}, "\x00\x03\x05\x00\x00\x00\x00\x00\x00\x01\x02"},
		{[]api.Const{{}, {Tag: 7, A: 2}, {Tag: 1, S: "A"}}, "\x00\x03\x07\x00\x02\x01\x00\x01A"},
		{[]api.Const{{}, {Tag: 12, A: 2, B: 2}, {Tag: 1}}, "\x00\x03\x0c\x00\x02\x00\x02\x01\x00\x00"},
		{each(), string(eachBytes())},
	} {
		makes(t, x.l, []byte(x.b))
		if !modelMayBe(x.l) || string(modelBytes(x.l)) != x.b {
			t.Fatalf("the model tells otherwise of %v", x.l)
		}
	}
}

func TestNoPlaces(t *testing.T) {
	makesNone(t, nil)
	makesNone(t, []api.Const{})
	makesNone(t, each()[:0])
}

func TestPlaceZero(t *testing.T) {
	for _, c := range []api.Const{{Tag: 1, S: "a"}, {Tag: 1}, {Tag: 3}, {Tag: 5}, {Tag: -1}, {Tag: 2}, {A: 1}, {B: 1}, {N: 1}, {S: "a"}, {A: -1}, {N: -1}} {
		makesNone(t, []api.Const{c})
		makesNone(t, []api.Const{c, {}})
		makesNone(t, []api.Const{c, {Tag: 3}})
	}
	makesNone(t, each()[1:])
}

func TestHowManyPlaces(t *testing.T) {
	l := append([]api.Const{{}}, slices.Repeat([]api.Const{{Tag: 3, N: 7}}, 2000)...)
	for _, n := range []int{1, 2, 255, 256, 257, 1023, 1024} {
		makes(t, l[:n], modelBytes(l[:n]))
	}
	for _, n := range []int{1025, 1026, 2001} {
		makesNone(t, l[:n])
	}
	longs := append([]api.Const{{}}, slices.Repeat([]api.Const{{Tag: 5, N: 7}, {}}, 600)...)
	for n := 1; n <= len(longs); n++ {
		if got := judged(t, longs[:n]); got != (n%2 == 1 && n <= 1024) {
			t.Fatalf("a pool of %d places, longs: %v", n, got)
		}
	}
}

func TestTags(t *testing.T) {
	l := []int{math.MinInt, math.MaxInt, -256, 1 << 32}
	for tag := -20; tag < 800; tag++ {
		l = append(l, tag)
	}
	for _, tag := range l {
		for _, c := range []api.Const{{}, {S: "x"}, {N: 1}, {A: 1}, {A: 1, B: 1}, {A: 2, B: 5}} {
			c.Tag = tag
			may := judged(t, with(each(), c)) || judged(t, with(each(), c, api.Const{}))
			if may && !slices.Contains(tags(), tag) {
				t.Fatalf("a pool with the Tag %d may be", tag)
			}
		}
	}
}

func TestSecondPlaces(t *testing.T) {
	long := api.Const{Tag: 5, N: 1}
	makes(t, []api.Const{{}, long, {}, long, {}}, modelBytes([]api.Const{{}, long, {}, long, {}}))
	for _, l := range [][]api.Const{
		{{}, long},                             // none
		{{}, long, {}, long},                   // none
		{{}, long, long, {}},                   // another one's
		{{}, long, {}, {}},                     // two
		{{}, {}},                               // of no long
		{{}, {Tag: 3}, {}},                     // of an int
		{{}, {Tag: 1}, {}},                     // of a text
		{{}, {}, long, {}},                     // ahead of it
		{{}, {Tag: 1}, {Tag: 7, A: 1}, {}},     // of a class
		{{}, {Tag: 7, A: 2}, {}, {Tag: 1}},     // of a class, in between
		{{}, long, {A: 1}},                     // one that isn't empty
		{{}, long, {B: 1}},                     // so, too
		{{}, long, {N: 1}},                     // so, too
		{{}, long, {S: "s"}},                   // so, too
		{{}, {Tag: 1}, long, {Tag: 7, A: 1}},   // of another Tag
		{{}, {Tag: 1}, {Tag: 7, A: 1}, {}, {}}, // of a class, two
	} {
		makesNone(t, l)
	}
	for _, tag := range tags() {
		l := with(each(), long, api.Const{Tag: tag, A: 3, B: 3})
		makesNone(t, l)
		makesNone(t, with(l, api.Const{}))
	}
}

func TestSecondPlaceOfEach(t *testing.T) {
	for at, c := range each() {
		l := with(each()[:at+1], with([]api.Const{{}}, each()[at+1:]...)...)
		makesNone(t, l)
		if c.Tag == 5 { // without its second place
			makesNone(t, slices.Delete(each(), at+1, at+2))
		}
	}
}

func TestTexts(t *testing.T) {
	for _, s := range []string{"", "a", "main", "\x01\x7f", "\xc0\x80", "ä", "€", "\xed\xa0\xbd\xed\xb8\x80", "\xed\xb8\x80", "\xef\xbf\xbf", "a b;[/"} {
		l := []api.Const{{}, {Tag: 1, S: s}}
		b := append([]byte{0, 2, 1, 0, byte(len(s))}, s...)
		makes(t, l, b)
	}
	for _, s := range noTexts() {
		l := []api.Const{{}, {Tag: 1, S: s}}
		makesNone(t, l)
		refuses(t, modelBytes(l), api.ErrForm)
		makesNone(t, with(each(), l[1]))
		refuses(t, modelBytes(with(each(), l[1])), api.ErrForm)
	}
}

func TestLengthsOfTexts(t *testing.T) {
	for _, unit := range []string{"a", "\xc0\x80", "\xef\xbf\xbf"} {
		for _, n := range []int{255, 256, 65533, 65534, 65535, 65536, 65537, 65538, 131072, 131073} {
			s := strings.Repeat(unit, n/len(unit)) + strings.Repeat("z", n%len(unit))
			l := []api.Const{{}, {Tag: 1, S: s}, {Tag: 3, N: 1}}
			if got := judged(t, l); got != (n <= 65535) {
				t.Fatalf("a text of %d bytes: %v", n, got)
			}
		}
	}
	s := strings.Repeat("a", 65535)
	b := append([]byte("\x00\x02\x01\xff\xff"), s...)
	makes(t, []api.Const{{}, {Tag: 1, S: s}}, b)
	refuses(t, b[:len(b)-1], api.ErrShort)
	b[len(b)-1] = 0xc3
	refuses(t, b, api.ErrForm)
}

func TestManyLongTexts(t *testing.T) {
	l := []api.Const{{}}
	for at := 1; at < api.MaxPool; at++ {
		l = append(l, api.Const{Tag: 1, S: strings.Repeat(string(rune('a'+at%26)), 65535-at)})
	}
	b := modelBytes(l)
	got, e := pool.Bytes(l)
	if e != api.OK || !bytes.Equal(got, b) {
		t.Fatalf("Bytes: %d of them, %d, not %d", len(got), e, len(b))
	}
	back, n, e := pool.Parse(b)
	if e != api.OK || n != len(b) || !slices.Equal(back, l) {
		t.Fatalf("Parse: %d places, of %d bytes, %d", len(back), n, e)
	}
}

func TestNumbers(t *testing.T) {
	for _, v := range numbers() {
		l := []api.Const{{}, {Tag: 3, N: v}}
		if fits := v == int64(int32(v)); judged(t, l) != fits {
			t.Fatalf("an int %d: not %v", v, fits)
		}
		l = []api.Const{{}, {Tag: 5, N: v}, {}}
		if !judged(t, l) {
			t.Fatalf("a long %d", v)
		}
	}
	makes(t, []api.Const{{}, {Tag: 3, N: math.MinInt32}}, []byte("\x00\x02\x03\x80\x00\x00\x00"))
	makes(t, []api.Const{{}, {Tag: 3, N: math.MaxInt32}}, []byte("\x00\x02\x03\x7f\xff\xff\xff"))
	makesNone(t, []api.Const{{}, {Tag: 3, N: math.MinInt32 - 1}})
	makesNone(t, []api.Const{{}, {Tag: 3, N: math.MaxInt32 + 1}})
	makesNone(t, []api.Const{{}, {Tag: 3, N: math.MaxUint32}})
	makes(t, []api.Const{{}, {Tag: 5, N: math.MinInt64}, {}}, []byte("\x00\x03\x05\x80\x00\x00\x00\x00\x00\x00\x00"))
	makes(t, []api.Const{{}, {Tag: 5, N: math.MaxInt64}, {}}, []byte("\x00\x03\x05\x7f\xff\xff\xff\xff\xff\xff\xff"))
}

// TestEachField gives a place behind the others, or each one in turn, all fields that may or may not be.
func TestEachField(t *testing.T) {
	taken := map[int]int{}
	put := func(c api.Const, at int) {
		l := with(each(), c)
		if at > 0 {
			l = each()
			l[at] = c
		}
		if judged(t, l) {
			taken[c.Tag]++
		}
	}
	for tag := -1; tag < 15; tag++ {
		for _, at := range []int{0, 1, 2, 5, 9, 12} {
			for _, a := range places(len(each()) + 1) {
				put(api.Const{Tag: tag, A: a}, at)
				put(api.Const{Tag: tag, B: a}, at)
				for _, b := range places(len(each()) + 1) {
					put(api.Const{Tag: tag, A: a, B: b}, at)
				}
			}
			for _, n := range numbers() {
				put(api.Const{Tag: tag, N: n}, at)
				put(api.Const{Tag: tag, A: 2, B: 5, N: n}, at)
				put(api.Const{Tag: tag, S: "s", N: n}, at)
			}
		}
	}
	for _, tag := range tags() {
		if tag != 5 && taken[tag] == 0 {
			t.Errorf("none of the Tag %d may be", tag)
		}
	}
}

func TestFieldsThatMustBeEmpty(t *testing.T) {
	for at, c := range each() {
		for _, x := range []struct {
			has  bool
			turn func(c *api.Const)
		}{
			{slices.Contains([]int{7, 8, 9, 10, 12}, c.Tag), func(c *api.Const) { c.A = 1 }},
			{slices.Contains([]int{9, 10, 12}, c.Tag), func(c *api.Const) { c.B = 1 }},
			{slices.Contains([]int{3, 5}, c.Tag), func(c *api.Const) { c.N = 1 }},
			{slices.Contains([]int{3, 5}, c.Tag), func(c *api.Const) { c.N = -1 }},
			{slices.Contains([]int{7, 8, 9, 10, 12}, c.Tag), func(c *api.Const) { c.A = -1 }},
			{slices.Contains([]int{9, 10, 12}, c.Tag), func(c *api.Const) { c.B = -1 }},
			{c.Tag == 1, func(c *api.Const) { c.S = "s" }},
			{c.Tag == 1, func(c *api.Const) { c.S = "\x00" }},
		} {
			l := each()
			x.turn(&l[at])
			if x.has {
				judged(t, l)
				continue
			}
			makesNone(t, l)
		}
	}
}

func TestWhatPlacesTell(t *testing.T) {
	text, class, name := api.Const{Tag: 1, S: "t"}, api.Const{Tag: 7, A: 1}, api.Const{Tag: 12, A: 1, B: 1}
	for _, x := range []struct {
		c   api.Const
		may bool
	}{
		{api.Const{Tag: 7, A: 1}, true},
		{api.Const{Tag: 7, A: 2}, false},
		{api.Const{Tag: 7, A: 3}, false},
		{api.Const{Tag: 7, A: 4}, false}, // itself
		{api.Const{Tag: 7, A: 5}, false}, // behind the last one
		{api.Const{Tag: 7}, false},
		{api.Const{Tag: 7, A: -1}, false},
		{api.Const{Tag: 7, A: 65537}, false}, // 1, if its lowest bytes counted
		{api.Const{Tag: 8, A: 1}, true},
		{api.Const{Tag: 8, A: 2}, false},
		{api.Const{Tag: 8, A: 4}, false},
		{api.Const{Tag: 12, A: 1, B: 1}, true},
		{api.Const{Tag: 12, A: 1, B: 2}, false},
		{api.Const{Tag: 12, A: 2, B: 1}, false},
		{api.Const{Tag: 12, A: 1}, false},
		{api.Const{Tag: 12, B: 1}, false},
		{api.Const{Tag: 9, A: 2, B: 3}, true},
		{api.Const{Tag: 9, A: 3, B: 2}, false},
		{api.Const{Tag: 9, A: 2, B: 1}, false},
		{api.Const{Tag: 9, A: 1, B: 3}, false},
		{api.Const{Tag: 9, A: 2}, false},
		{api.Const{Tag: 9, B: 3}, false},
		{api.Const{Tag: 9, A: 2, B: 4}, false},
		{api.Const{Tag: 10, A: 2, B: 3}, true},
		{api.Const{Tag: 10, A: 2, B: 2}, false},
		{api.Const{Tag: 10, A: 3, B: 3}, false},
		{api.Const{Tag: 10, A: 2, B: 5}, false},
		{api.Const{Tag: 10, A: 5, B: 3}, false},
	} {
		if got := judged(t, []api.Const{{}, text, class, name, x.c}); got != x.may {
			t.Errorf("%v may be: %v, not %v", x.c, got, x.may)
		}
	}
	// The last place is one of the pool's, and one ahead of those that tell it isn't asked for.
	judged(t, []api.Const{{}, {Tag: 9, A: 2, B: 3}, {Tag: 7, A: 4}, {Tag: 12, A: 4, B: 4}, {Tag: 1}})
	makes(t, []api.Const{{}, {Tag: 8, A: 2}, {Tag: 1}}, []byte("\x00\x03\x08\x00\x02\x01\x00\x00"))
}

func TestFarPlaces(t *testing.T) {
	l := append([]api.Const{{}}, slices.Repeat([]api.Const{{Tag: 3}}, 1021)...)
	l = append(l, api.Const{Tag: 1, S: "far"}, api.Const{Tag: 8, A: 1022})
	makes(t, l, modelBytes(l))
	l[1] = api.Const{Tag: 7, A: 1022}
	l[2] = api.Const{Tag: 12, A: 1022, B: 1022}
	l[1023] = api.Const{Tag: 9, A: 1, B: 2}
	makes(t, l, modelBytes(l))
	tells(t, l)
	l[1023].A = 1023
	makesNone(t, l)
}
