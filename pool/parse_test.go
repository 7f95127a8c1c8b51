package pool_test

import (
	"bytes"
	"slices"
	"testing"

	"carpetbag/api"
	"carpetbag/pool"
)

// P11.1: what Parse tells, and what is wrong first.

func TestParseWrittenOut(t *testing.T) {
	parses(t, eachBytes(), each())
	parses(t, []byte{0, 1}, []api.Const{{}})
}

func TestWrongFirst(t *testing.T) {
	for _, x := range []struct {
		b string
		e api.Errno
	}{
		{"", api.ErrShort},
		{"\x00", api.ErrShort},
		{"\xff", api.ErrShort},
		{"\x00\x00", api.ErrForm},
		{"\x00\x00\x01\x00\x00", api.ErrForm},
		{"\x04\x01", api.ErrForm}, // asked ahead of what is missing behind
		{"\xff\xff", api.ErrForm},
		{"\x04\x00", api.ErrShort},
		{"\x00\x02", api.ErrShort},
		{"\x00\x02\x00", api.ErrForm}, // Tags that are none, asked ahead of what is missing behind
		{"\x00\x02\x02", api.ErrForm},
		{"\x00\x02\xff", api.ErrForm},
		{"\x00\x03\x01\x00\x01\x00\x02", api.ErrForm},
		{"\x00\x02\x01", api.ErrShort},
		{"\x00\x02\x01\x00", api.ErrShort},
		{"\x00\x02\x01\x00\x01", api.ErrShort},
		{"\x00\x02\x01\xff\xffabc", api.ErrShort},
		{"\x00\x03\x01\x00\x01\x00", api.ErrShort}, // what isn't a text's is asked behind all
		{"\x00\x03\x01\x00\x01\x00\x03\x00\x00\x00", api.ErrShort},
		{"\x00\x03\x01\x00\x01\x00\x03\x00\x00\x00\x01", api.ErrForm},
		{"\x00\x03\x07\x00\x09", api.ErrShort}, // and so is a wrong place
		{"\x00\x03\x07\x00\x09\x07\x00", api.ErrShort},
		{"\x00\x03\x07\x00\x09\x07\x00\x01", api.ErrForm},
		{"\x00\x03\x07\x00\x02\x01\x00", api.ErrShort},
		{"\x00\x02\x05\x00\x00\x00\x00\x00\x00\x00", api.ErrShort}, // and a long at the last place
		{"\x00\x02\x05\x00\x00\x00\x00\x00\x00\x00\x00", api.ErrForm},
		{"\x00\x02\x05\x00\x00\x00\x00\x00\x00\x00\x00\x03\x00\x00\x00\x00", api.ErrForm},
		{"\x00\x03\x03\x00\x00\x00\x00\x05\x00\x00\x00\x00\x00\x00\x00\x00", api.ErrForm},
		{"\x00\x04\x05\x00\x00\x00\x00\x00\x00\x00\x00\x05\x00\x00\x00\x00\x00\x00\x00\x00", api.ErrForm},
		{"\x00\x04\x05\x00\x00\x00\x00\x00\x00\x00\x00", api.ErrShort},
		{"\x00\x04\x05\x00\x00\x00\x00\x00\x00\x00\x00\x00", api.ErrForm}, // a second place has no bytes
		{"\x00\x03\x05\x00\x00\x00\x00\x00\x00\x00", api.ErrShort},
		{"\x00\x03\x01\x00\x01\x00\x06", api.ErrForm},
	} {
		refuses(t, []byte(x.b), x.e)
		if _, _, e := modelParse([]byte(x.b)); e != x.e {
			t.Fatalf("the model tells %d of % x, not %d", e, x.b, x.e)
		}
	}
}

func TestEachCount(t *testing.T) {
	for n := range 1 << 16 {
		b := []byte{byte(n >> 8), byte(n)}
		switch {
		case n == 0 || n > 1024:
			refuses(t, b, api.ErrForm)
		case n == 1:
			parses(t, b, []api.Const{{}})
		default:
			refuses(t, b, api.ErrShort)
		}
	}
}

func TestCountsOfPlaces(t *testing.T) {
	for _, n := range []int{1, 2, 3, 255, 256, 1022, 1023, 1024, 1025, 1026} {
		l := append([]api.Const{{}}, slices.Repeat([]api.Const{{Tag: 3, N: -5}}, n-1)...)
		b := modelBytes(l)
		if n > 1024 {
			refuses(t, b, api.ErrForm)
			continue
		}
		parses(t, b, l)
		refuses(t, b[:len(b)-1], api.ErrShort)
		if n > 1 {
			refuses(t, b[:len(b)-5], api.ErrShort)
		}
	}
}

func TestLongsAtTheEnd(t *testing.T) {
	for _, n := range []int{2, 3, 256, 1023, 1024} {
		l := append([]api.Const{{}}, slices.Repeat([]api.Const{{Tag: 3}}, n-2)...)
		b := modelBytes(append(l, api.Const{Tag: 5, N: 1}))
		refuses(t, b, api.ErrForm)
		refuses(t, b[:len(b)-1], api.ErrShort)
		refuses(t, append(b, 3, 0, 0, 0, 0), api.ErrForm)
		if n > 2 {
			l[n-2] = api.Const{Tag: 5, N: 1}
			l = append(l, api.Const{})
			parses(t, modelBytes(l), l)
		}
	}
}

func TestEachTag(t *testing.T) {
	for tag := range 256 {
		one := []byte{0, 2, byte(tag)}
		if !slices.Contains(tags(), tag) {
			refuses(t, one, api.ErrForm)
			refuses(t, append(one, make([]byte, 20)...), api.ErrForm)
			continue
		}
		refuses(t, one, api.ErrShort)
		for n := range 20 {
			read(t, append(slices.Clip(one), make([]byte, n)...))
			read(t, append([]byte{0, 3, byte(tag)}, bytes.Repeat([]byte{1}, n)...))
			read(t, append([]byte{0, 3, 1, 0, 0, byte(tag), 0, 1, 0, 1}, make([]byte, n)...))
		}
	}
}

func TestCutShort(t *testing.T) {
	b := eachBytes()
	for n := range b {
		refuses(t, b[:n], api.ErrShort)
		refuses(t, b[:n:n], api.ErrShort)
	}
	read(t, b)
	for _, more := range []string{"\x00", "\x01", "\x05\x00", string(b)} {
		if !read(t, append(eachBytes(), more...)) {
			t.Fatalf("with % x behind it no pool is told", more)
		}
	}
}

func TestTurnedBytes(t *testing.T) {
	taken := 0
	for at, was := range eachBytes() {
		for x := range 256 {
			b := eachBytes()
			b[at] = byte(x)
			if read(t, b) && byte(x) != was {
				taken++
			}
			for cut := range b {
				read(t, b[:cut])
			}
		}
	}
	if taken < 1000 {
		t.Errorf("but %d of the turned ones are pools", taken)
	}
}

func TestTwoTurnedBytes(t *testing.T) {
	values := []byte{0, 1, 2, 3, 5, 6, 7, 8, 9, 10, 12, 13, 128, 255}
	for one := range eachBytes() {
		for two := range one {
			for _, x := range values {
				for _, y := range values {
					b := eachBytes()
					b[one], b[two] = x, y
					read(t, b)
				}
			}
		}
	}
}

func TestBytesTakenOutAndPutIn(t *testing.T) {
	for at := range eachBytes() {
		for until := at; until <= len(eachBytes()); until++ {
			read(t, slices.Delete(eachBytes(), at, until))
		}
		for x := range 14 {
			read(t, slices.Insert(eachBytes(), at, byte(x)))
			read(t, slices.Insert(eachBytes(), at, 0, byte(x)))
			read(t, slices.Insert(eachBytes(), at, byte(x), 0, 1))
		}
	}
}

func TestThrownBytes(t *testing.T) {
	d := dice(1)
	values := []byte{0, 0, 0, 0, 1, 1, 1, 2, 3, 4, 5, 7, 8, 9, 10, 12, 255}
	taken := 0
	for range 400000 {
		b := make([]byte, 2+d.next(24))
		b[1] = byte(d.next(6))
		for i := range b[2:] {
			b[2+i] = values[d.next(len(values))]
		}
		if read(t, b) && b[1] > 1 {
			taken++
		}
	}
	if taken < 1000 {
		t.Errorf("but %d of the rows are pools of more than one place", taken)
	}
}

// P11.2: there and back.

func TestThrownPoolsThereAndBack(t *testing.T) {
	d := dice(2)
	for range 5000 {
		l := thrown(&d)
		if !judged(t, l) {
			t.Fatalf("%v may not be", l)
		}
		b, _ := pool.Bytes(l)
		back, n, e := pool.Parse(b)
		if e != api.OK || n != len(b) || !slices.Equal(back, l) {
			t.Fatalf("%v is told as %v, %d, %d", l, back, n, e)
		}
		b[d.next(len(b))] = byte(d.next(256))
		read(t, b)
		read(t, b[:d.next(len(b))])
	}
}

func TestThrownFaults(t *testing.T) {
	d := dice(3)
	refused := 0
	for range 20000 {
		l := thrown(&d)
		c := &l[d.next(len(l))]
		switch d.next(5) {
		case 0:
			c.Tag = d.next(14)
		case 1:
			c.A = d.next(len(l)+4) - 2
		case 2:
			c.B = d.next(len(l)+4) - 2
		case 3:
			c.N = int64(d.next(5)-2) << (30 + d.next(3))
		case 4:
			c.S = noTexts()[d.next(len(noTexts()))]
		}
		if !judged(t, l) {
			refused++
		}
	}
	if refused < 5000 {
		t.Errorf("but %d of the pools may not be", refused)
	}
}
