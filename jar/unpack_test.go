package jar_test

import (
	"slices"
	"strings"
	"testing"

	"carpetbag/api"
	"carpetbag/jar"
)

// P20.1: Unpack, and the other way round.

func TestBeginnings(t *testing.T) {
	b := twoBytes()
	for n := range b {
		wontUnpack(t, b[:n], api.ErrShort)
		wontUnpack(t, slices.Clone(b[:n]), api.ErrShort)
	}
	wontUnpack(t, nil, api.ErrShort)
	// The first four are read together: what is wrong in three of them isn't read.
	for _, short := range []string{"x", "CX", "xJ0", "CJ1", "\x00\x00\x00"} {
		wontUnpack(t, []byte(short), api.ErrShort)
	}
	for at := range 4 {
		for x := range 256 {
			if byte(x) == b[at] {
				continue
			}
			other := twoBytes()
			other[at] = byte(x)
			wontUnpack(t, other, api.ErrForm)
			wontUnpack(t, other[:4], api.ErrForm)
			wontUnpack(t, other[:5], api.ErrForm)
		}
	}
}

func TestMoreBehind(t *testing.T) {
	for n := range 41 {
		b := modelBytes(numbered(n))
		unpacks(t, b, numbered(n))
		wontUnpack(t, append(b, 0), api.ErrForm)
		wontUnpack(t, append(b, b...), api.ErrForm)
		wontUnpack(t, append(b, make([]byte, 65536-len(b))...), api.ErrForm)
		wontUnpack(t, append(b, make([]byte, 65537-len(b))...), api.ErrLong)
	}
}

func TestCounts(t *testing.T) {
	for n := range 256 {
		b := append([]byte("CJ01"), byte(n))
		l := numbered(n)
		for i := range l {
			l[i].Name += strings.Repeat("m", i/100)
		}
		whole := modelBytes(l)
		if n > 40 {
			wontUnpack(t, b, api.ErrForm)
			wontUnpack(t, whole, api.ErrForm)
			continue
		}
		unpacks(t, whole, l)
		if n == 0 {
			continue
		}
		wontUnpack(t, b, api.ErrShort)
		whole[4]--
		wontUnpack(t, whole, api.ErrForm)
		if whole[4] += 2; n < 40 {
			wontUnpack(t, whole, api.ErrShort)
		}
	}
}

func TestNamesAreRead(t *testing.T) {
	for x := range 256 {
		for at := range 3 {
			b := modelBytes([]api.Item{item("abc", "data"), item("def", "")})
			b[6+at] = byte(x)
			name := string(b[6:9])
			if strings.Contains(signs, string(b[6+at:7+at])) {
				unpacks(t, b, []api.Item{item(name, "data"), item("def", "")})
			} else {
				wontUnpack(t, b, api.ErrForm)
			}
		}
	}
	for n := range 256 {
		l := []api.Item{item(strings.Repeat("n", n), "1")}
		b := modelBytes(l)
		switch {
		case 1 <= n && n <= 64:
			unpacks(t, b, l)
		default:
			wontUnpack(t, b, api.ErrForm)
		}
		// A name is asked where it is whole.
		if n > 0 {
			wontUnpack(t, b[:5+n], api.ErrShort)
		} else {
			wontUnpack(t, b[:6], api.ErrForm)
		}
	}
}

// TestWhatIsWrongFirst has two things wrong, one of the first item, one of the second one.
func TestWhatIsWrongFirst(t *testing.T) {
	wrongs := []struct {
		e    api.Errno
		turn func(b []byte, at, end int) []byte // of an item from at on, ahead of end
	}{
		{api.ErrForm, func(b []byte, at, end int) []byte { b[at+1] = ' '; return b }},
		{api.ErrForm, func(b []byte, at, end int) []byte { b[at] = 0; return b }},
		{api.ErrShort, func(b []byte, at, end int) []byte { b[at] = 200; return b }},
		{api.ErrShort, func(b []byte, at, end int) []byte { b[at+3] = 1; return b }},
		{api.ErrShort, func(b []byte, at, end int) []byte { b[at+5] = 255; return b }},
		{api.ErrShort, func(b []byte, at, end int) []byte { copy(b[at+2:], "\xff\xff\xff\xff"); return b }},
		{api.ErrSum, func(b []byte, at, end int) []byte { b[at+6] ^= 1; return b }},
		{api.ErrSum, func(b []byte, at, end int) []byte { b[end-1] ^= 1; return b }},
		{api.ErrSum, func(b []byte, at, end int) []byte { b[end-4] ^= 0x80; return b }},
		{api.ErrShort, func(b []byte, at, end int) []byte { return b[:end-1] }},
		{api.ErrShort, func(b []byte, at, end int) []byte { return b[:at+2] }},
		{api.ErrShort, func(b []byte, at, end int) []byte { return b[:at] }},
	}
	const size = 14 // of an item
	l := []api.Item{item("a", "1234"), item("b", "5678"), item("c", "9012")}
	for _, first := range wrongs {
		for _, second := range wrongs {
			for at := range 3 {
				begin := 5 + at*size
				b := first.turn(modelBytes(l), begin, begin+size)
				wontUnpack(t, b, first.e)
				if at < 2 && len(b) == 5+3*size {
					wontUnpack(t, second.turn(b, begin+size, begin+2*size), first.e)
				}
			}
		}
	}
}

func TestNamesThatStandTwice(t *testing.T) {
	for _, n := range []int{2, 3, 40} {
		for i := range n {
			for j := range i {
				l := numbered(n)
				l[i].Name = l[j].Name
				b := modelBytes(l)
				wontUnpack(t, b, api.ErrForm)
				at := len(modelBytes(l[:i])) + 4
				// Ahead of what is wrong with its data, and where nothing stands behind the name.
				wontUnpack(t, b[:at], api.ErrForm)
				wontUnpack(t, b[:at-1], api.ErrShort)
				b[len(modelBytes(l[:i+1]))-1]++
				wontUnpack(t, b, api.ErrForm)
				// Behind what is wrong with the data ahead of it.
				b[len(modelBytes(l[:j+1]))-1]++
				wontUnpack(t, b, api.ErrSum)
			}
		}
	}
}

func TestLengthsThatReachBeyondTheEnd(t *testing.T) {
	for _, n := range []uint32{6, 7, 8, 9, 10, 255, 256, 65535, 65536, 1 << 24, 1<<31 - 1, 1 << 31, 1<<31 + 5, 1<<32 - 9, 1<<32 - 4, 1<<32 - 1} {
		b := modelBytes([]api.Item{item("a", "12345")})
		copy(b[7:], four(n))
		if n <= 9 {
			// All its bytes are there, but not its sum.
			b = b[:11+n]
		}
		wontUnpack(t, b, api.ErrShort)
	}
	// What a smaller length leaves is no sum.
	for n := range uint32(5) {
		b := modelBytes([]api.Item{item("a", "12345")})
		copy(b[7:], four(n))
		wontUnpack(t, b, api.ErrSum)
	}
}

// TestSums has another sum, in each bit, of each of some items.
func TestSums(t *testing.T) {
	l := []api.Item{item("a", ""), item("b", "1"), item("c", "some data")}
	for i := range l {
		end := len(modelBytes(l[:i+1]))
		for bit := range 32 {
			b := modelBytes(l)
			b[end-1-bit/8] ^= 1 << (bit % 8)
			wontUnpack(t, b, api.ErrSum)
		}
	}
}

// TestEachByteTurned has each byte of a jar be each other one.
func TestEachByteTurned(t *testing.T) {
	for at := range twoBytes() {
		for x := range 256 {
			b := twoBytes()
			b[at] = byte(x)
			asks(t, b)
		}
	}
}

// asks holds what Unpack answers against the model, and tells its error.
func asks(t *testing.T, b []byte) api.Errno {
	t.Helper()
	want, e := modelUnpack(b)
	if e == api.OK {
		unpacks(t, b, want)
	} else {
		wontUnpack(t, b, e)
	}
	return e
}

func TestHowManyBytesAreRead(t *testing.T) {
	for _, n := range []int{65534, 65535, 65536} {
		unpacks(t, modelBytes(full(n, 3)), full(n, 3))
	}
	for _, n := range []int{65537, 65538, 1 << 20} {
		b := modelBytes(full(n, 3))
		wontUnpack(t, b, api.ErrLong)
		// Whatever else is wrong.
		b[0] = 'X'
		wontUnpack(t, b, api.ErrLong)
		wontUnpack(t, make([]byte, n), api.ErrLong)
	}
	wontUnpack(t, make([]byte, 65536), api.ErrForm)
}

func TestThrownBytes(t *testing.T) {
	d := dice(2)
	var counts [18]int
	for range 40000 {
		b := modelBytes(thrown(&d))
		for range d.next(3) {
			switch d.next(4) {
			case 0:
				b[d.next(len(b))] = byte(d.next(256))
			case 1:
				b[d.next(len(b))] ^= 1 << d.next(8)
			case 2:
				b = b[:1+d.next(len(b))]
			case 3:
				at := d.next(len(b))
				b = slices.Insert(b, at, byte(d.next(256)))
			}
		}
		counts[asks(t, b)]++
	}
	for _, e := range []api.Errno{api.OK, api.ErrShort, api.ErrForm, api.ErrSum} {
		if counts[e] < 400 {
			t.Errorf("%d came %d times", e, counts[e])
		}
	}
}

// TestShortRows has all rows of a few bytes behind the beginning.
func TestShortRows(t *testing.T) {
	letters := []byte{0, 1, 2, 'a', ' '}
	row := make([]byte, 7)
	for n := range len(row) + 1 {
		all := 1
		for range n {
			all *= len(letters)
		}
		for number := range all {
			b := append([]byte("CJ01"), row[:n]...)
			for i := range n {
				b[4+i] = letters[number%len(letters)]
				number /= len(letters)
			}
			asks(t, b)
		}
	}
}

// P20.3: bits of Data that are turned within 32 places side by side.

// turnBits turns those bits of an item's data that a pattern tells, from a bit on.
func turnBits(data []byte, from int, pattern uint32) {
	for i := range 32 {
		if at := from + i; pattern>>(31-i)&1 == 1 {
			data[at/8] ^= 0x80 >> (at % 8)
		}
	}
}

func TestTurnedBits(t *testing.T) {
	d := dice(3)
	l := []api.Item{item("a", "x"), item("b", string(d.bytes(40))), item("c", "data")}
	whole := modelBytes(l)
	at := len(modelBytes(l[:1])) + 2 + 4
	for from := range 40*8 - 31 {
		patterns := []uint32{1, 1 << 31, 1<<31 | 1, 1<<32 - 1, 0xaaaaaaaa, 0x55555555, 0xf0000000, 0xf}
		for range 20 {
			patterns = append(patterns, uint32(d.next(1<<16))<<16|uint32(d.next(1<<16))|1<<d.next(32))
		}
		for _, pattern := range patterns {
			b := slices.Clone(whole)
			turnBits(b[at:at+40], from, pattern)
			wontUnpack(t, b, api.ErrSum)
		}
	}
	// Of few bytes all that can be turned.
	one := modelBytes([]api.Item{item("a", "xy")})
	for turned := 1; turned < 1<<16; turned++ {
		b := slices.Clone(one)
		b[11] ^= byte(turned >> 8)
		b[12] ^= byte(turned)
		if _, e := jar.Unpack(b); e != api.ErrSum {
			t.Fatalf("%04x turned: %d", turned, e)
		}
	}
}

func TestTurnedBitsOfLongData(t *testing.T) {
	d := dice(4)
	l := full(65536, 5)
	whole := modelBytes(l)
	at := len(modelBytes(nil)) + 1 + 3 + 4
	bits := 8 * len(l[0].Data)
	for range 300 {
		from := oneOf(&d, 0, 1, bits-32, bits-33, d.next(bits-31))
		b := slices.Clone(whole)
		turnBits(b[at:at+bits/8], from, uint32(d.next(1<<31))|1<<d.next(32))
		wontUnpack(t, b, api.ErrSum)
	}
}
