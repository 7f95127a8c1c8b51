package utf_test

import (
	"bytes"
	"slices"
	"testing"

	"carpetbag/api"
	"carpetbag/utf"
)

// P10.2: there and back.

func TestTextsThereAndBack(t *testing.T) {
	row := edges()
	var l []uint16
	for _, u := range row {
		for _, v := range row {
			decodes(t, modelBytes([]uint16{u, v}), []uint16{u, v})
			l = append(l, u, v)
		}
	}
	decodes(t, modelBytes(l), l)
}

func TestThrownTextsThereAndBack(t *testing.T) {
	d := dice(1)
	tops := []int{128, 2048, 1 << 16} // so that units of each number of bytes come often
	for range 5000 {
		l := make([]uint16, d.next(30))
		for i := range l {
			l[i] = uint16(d.next(tops[d.next(3)]))
		}
		decodes(t, modelBytes(l), l)
	}
}

func TestBytesThereAndBack(t *testing.T) {
	d := dice(2)
	row := edgeBytes()
	taken := 0
	for range 300000 {
		b := make([]byte, d.next(9))
		for i := range b {
			b[i] = row[d.next(len(row))]
		}
		l, e := utf.Decode(b)
		if e != api.OK {
			continue
		}
		taken++
		if got := utf.Encode(l); !bytes.Equal(got, b) {
			t.Fatalf("% x are decoded as %x, which is encoded as % x", b, l, got)
		}
	}
	if taken < 10000 {
		t.Errorf("but %d of the rows were texts", taken)
	}
}

// P10.1: bytes against the model.

func TestOneByteTwoAndThree(t *testing.T) {
	m := newModel()
	for x := range 256 {
		m.check(t, []byte{byte(x)})
		for y := range 256 {
			m.check(t, []byte{byte(x), byte(y)})
			for _, z := range edgeBytes() {
				m.check(t, []byte{byte(x), byte(y), z})
			}
		}
	}
}

// TestAllRowsOfThree counts which rows are taken: each text of so many bytes is one row.
func TestAllRowsOfThree(t *testing.T) {
	var taken, units int
	b := make([]byte, 3)
	for x := range 1 << 24 {
		b[0], b[1], b[2] = byte(x>>16), byte(x>>8), byte(x)
		n, e := utf.Len(b)
		if e != api.OK {
			continue
		}
		taken++
		units += n
	}
	// One unit of three bytes; one of two beside one of one, on either side; three of one.
	one, two, three := 127, 1+1920, 63488
	if taken != three+2*two*one+one*one*one || units != three+2*2*two*one+3*one*one*one {
		t.Errorf("%d rows are texts, of %d units", taken, units)
	}
}

func TestRowsOfEdges(t *testing.T) {
	m := newModel()
	row := edgeBytes()
	all := [][]byte{nil}
	for range 4 {
		var longer [][]byte
		for _, b := range all {
			for _, x := range row {
				longer = append(longer, append(slices.Clip(b), x))
			}
		}
		for _, b := range longer {
			m.check(t, b)
		}
		all = longer
	}
}

func TestThrownRows(t *testing.T) {
	m := newModel()
	d := dice(3)
	for range 20000 {
		// Right bytes but for a few.
		l := make([]uint16, 1+d.next(12))
		for i := range l {
			l[i] = uint16(d.next(1 << (1 + d.next(16))))
		}
		b := modelBytes(l)
		for range d.next(3) {
			b[d.next(len(b))] = byte(d.next(256))
		}
		from := d.next(len(b))
		m.check(t, b[from:from+d.next(len(b)-from+1)])
	}
}

func TestVeryLong(t *testing.T) {
	for _, u := range []uint16{0, 'a', 2047, 0xffff} {
		l := slices.Repeat([]uint16{u}, 300000)
		b := bytes.Repeat(modelUnit(int(u)), 300000)
		decodes(t, b, l)
		refuses(t, append(b, 0xe1, 0x80))
		b = b[:len(b)-2]
		b[0] = 0
		refuses(t, b)
	}
}
