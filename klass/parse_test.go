package klass_test

import (
	"bytes"
	"slices"
	"testing"

	"carpetbag/api"
)

// P14.1: what Parse tells.

// classes are some of all kinds.
func classes() []api.File {
	return []api.File{least(), one(), each(), with(each(), func(f *api.File) { f.Super = 0; f.Fields = nil; f.Methods = f.Methods[:1] })}
}

func TestCutShort(t *testing.T) {
	for _, f := range classes() {
		b := modelBytes(f)
		for n := range b {
			refuses(t, b[:n], api.ErrShort)
			refuses(t, bytes.Clone(b[:n]), api.ErrShort)
		}
		parses(t, b, f)
	}
	for n := range eachBytes() {
		refuses(t, eachBytes()[:n], api.ErrShort)
	}
	long := with(each(), func(f *api.File) { f.Methods[1].Code = sized(4096, byte(200)) })
	b := modelBytes(long)
	for n := range b {
		refuses(t, b[:n], api.ErrShort)
	}
}

func TestMoreBehind(t *testing.T) {
	for _, f := range classes() {
		b := modelBytes(f)
		for x := range 256 {
			refuses(t, append(bytes.Clone(b), byte(x)), api.ErrForm)
		}
		refuses(t, append(bytes.Clone(b), 0, 0), api.ErrForm)
		refuses(t, append(bytes.Clone(b), b...), api.ErrForm)
		refuses(t, append(bytes.Clone(b), make([]byte, 1000)...), api.ErrForm)
	}
}

// TestSpareRoomIsNotRead cuts bytes out of longer ones.
func TestSpareRoomIsNotRead(t *testing.T) {
	row := append(eachBytes(), 1, 2, 3)
	b := row[:len(row)-3]
	parses(t, b, each())
	if !bytes.Equal(row, append(eachBytes(), 1, 2, 3)) {
		t.Fatal("what was handed in changed")
	}
}

// TestTheSame asks the numbers that are the same in each class, with all other ones of a byte or two in their stead.
func TestTheSame(t *testing.T) {
	for _, f := range classes() {
		for _, s := range modelSheet(f).spots {
			if !slices.Contains([]string{"magic", "0", "1", "33", "45"}, s.name) {
				continue
			}
			for i := range s.size {
				for x := range 256 {
					b := modelBytes(f)
					if b[s.at+i] == byte(x) {
						continue
					}
					b[s.at+i] = byte(x)
					refuses(t, b, api.ErrForm)
				}
			}
		}
	}
	for _, first := range []string{"\xca\xfe\xba\xbe\x00\x00\x00\x2e", "\xca\xfe\xba\xbe\x00\x03\x00\x2d", "\xba\xbe\xca\xfe\x00\x00\x00\x2d", "\xbe\xba\xfe\xca\x00\x00\x00\x2d", "\xca\xfe\xba\xbe\x00\x2d\x00\x00", "\x00\x00\x00\x00\x00\x00\x00\x00"} {
		refuses(t, append([]byte(first), eachBytes()[8:]...), api.ErrForm)
	}
}

// set is bytes with a number in a spot's stead.
func set(b []byte, s spot, v int) []byte {
	var n sheet
	n.put("", v, s.size)
	return slices.Concat(b[:s.at], n.b, b[s.at+s.size:])
}

// valueAt is the number of a spot.
func valueAt(b []byte, s spot) int {
	v := 0
	for _, x := range b[s.at : s.at+s.size] {
		v = v<<8 + int(x)
	}
	return v
}

// TestLengths turns the lengths of methods and their maps: any other than how many bytes follow is refused.
func TestLengths(t *testing.T) {
	for _, f := range classes() {
		b := modelBytes(f)
		for _, s := range modelSheet(f).spots {
			if s.name != "method" && s.name != "all maps" {
				continue
			}
			right := valueAt(b, s)
			there := len(b) - s.at - s.size
			for _, v := range []int{0, 1, 2, 1<<31 - 1, 1 << 31, 1<<32 - 1, right + 1<<8, right + 1<<16, right + 1<<24, right + 1<<31} {
				if v != right {
					refuses(t, set(b, s, v), lengthErrors(v, there)...)
				}
			}
			for v := right - 300; v < right+300; v++ {
				if v >= 0 && v != right {
					refuses(t, set(b, s, v), lengthErrors(v, there)...)
				}
			}
		}
	}
}

// lengthErrors are those of a wrong length where so many bytes are there: if it tells more of them, they may be called too few.
func lengthErrors(length, there int) []api.Errno {
	if length > there {
		return []api.Errno{api.ErrForm, api.ErrShort}
	}
	return []api.Errno{api.ErrForm}
}

// TestLengthsAlike moves a byte from one part to another whose length is turned, too.
func TestLengthsAlike(t *testing.T) {
	f := with(each(), func(f *api.File) { f.Methods = f.Methods[:1] })
	b := modelBytes(f)
	for _, s := range modelSheet(f).spots {
		if s.name != "method" {
			continue
		}
		// Two bytes that no method has stand at its end.
		longer := set(b, s, valueAt(b, s)+2)
		refuses(t, slices.Insert(longer, len(b)-2, 0, 0), api.ErrForm)
		shorter := set(b, s, valueAt(b, s)-2)
		refuses(t, slices.Delete(shorter, len(b)-4, len(b)-2), api.ErrForm, api.ErrShort)
	}
	// A byte of the code stands behind it.
	for _, s := range modelSheet(f).spots {
		if s.name == "code" {
			refuses(t, set(b, s, 0), api.ErrForm, api.ErrShort)
			refuses(t, slices.Delete(set(b, s, 0), s.at+4, s.at+5), api.ErrForm)
		}
	}
}

// TestNoCode has a code of no bytes, all else is right.
func TestNoCode(t *testing.T) {
	for _, f := range []api.File{one(), each()} {
		for i := range f.Methods {
			none := with(f, func(f *api.File) { f.Methods[i].Code = nil })
			makesNone(t, none)
			refuses(t, modelBytes(none), api.ErrForm)
		}
	}
}

// TestNoMaps has the attribute of the maps without one.
func TestNoMaps(t *testing.T) {
	f := with(one(), func(f *api.File) { f.Methods[0].Maps = nil })
	b := modelBytes(f)
	parses(t, b, f)
	var method, none spot
	for _, s := range modelSheet(f).spots {
		switch s.name {
		case "method":
			method = s
		case "no maps":
			none = s
		}
	}
	// 0, 1 and the place 10 of "StackMap" are there, two bytes follow: there are 0 maps.
	with0 := set(b, method, valueAt(b, method)+8)
	with0 = slices.Concat(with0[:none.at], []byte{0, 1, 0, 10, 0, 0, 0, 2, 0, 0}, with0[none.at+2:])
	refuses(t, with0, api.ErrForm)
	// With one map they are a class's.
	f.Methods[0].Maps = []api.FileMap{{At: 258}}
	with1 := set(b, method, valueAt(b, method)+14)
	with1 = slices.Concat(with1[:none.at], []byte{0, 1, 0, 10, 0, 0, 0, 8, 0, 1, 1, 2, 0, 0, 0, 0}, with1[none.at+2:])
	makes(t, f, with1)
}

// TestHowManyAttributes turns how many attributes a code has.
func TestHowManyAttributes(t *testing.T) {
	for _, f := range classes() {
		b := modelBytes(f)
		for _, s := range modelSheet(f).spots {
			for v := range 300 {
				switch {
				case s.name == "some maps" && v > 1:
					refuses(t, set(b, s, v), api.ErrForm)
				case s.name == "some maps" && v == 0:
					refuses(t, set(b, s, v), api.ErrForm, api.ErrShort)
				case s.name == "no maps" && v > 1:
					refuses(t, set(b, s, v), api.ErrForm, api.ErrShort)
				}
			}
			if s.name == "no maps" {
				refuses(t, set(b, s, 1), api.ErrForm, api.ErrShort)
			}
		}
	}
	// A second attribute of a code, a method, a field or a class stands there whole.
	f := with(one(), func(f *api.File) { f.Methods[0].Traps = nil })
	b := modelBytes(f)
	more := []byte{0, 10, 0, 0, 0, 0}
	for _, s := range modelSheet(f).spots {
		switch s.name {
		case "0", "1", "some maps":
			for _, behind := range modelSheet(f).spots {
				if behind.at < s.at {
					continue
				}
				at := behind.at + behind.size
				refuses(t, slices.Insert(set(b, s, valueAt(b, s)+1), at, more...), api.ErrForm, api.ErrShort)
			}
		}
	}
	refuses(t, append(set(b, spot{"", len(b) - 2, 2}, 1), more...), api.ErrForm)
}

// TestNamesOfAttributes turns the places that tell "Code" and "StackMap": any other is refused.
func TestNamesOfAttributes(t *testing.T) {
	for _, f := range []api.File{one(), each()} {
		b := modelBytes(f)
		for _, s := range modelSheet(f).spots {
			if s.name != "Code" && s.name != "StackMap" {
				continue
			}
			for v := range 65536 {
				if v != valueAt(b, s) && (v < 30 || v%251 == 0) {
					refuses(t, set(b, s, v), api.ErrForm)
				}
			}
		}
	}
}

// TestAttributesThatThePoolHasNot has the bytes of a method whose pool hasn't the text "Code", and so of maps.
func TestAttributesThatThePoolHasNot(t *testing.T) {
	for _, name := range []string{"Code", "StackMap"} {
		f := renamed(one(), name, "other")
		b := modelBytes(f)
		refuses(t, b, api.ErrForm)
		for _, s := range modelSheet(f).spots {
			if s.name != name {
				continue
			}
			for v := range 30 {
				refuses(t, set(b, s, v), api.ErrForm)
			}
		}
	}
}

// TestEachNumberTurned sets all numbers of bytes to edges, and holds Parse against the model.
func TestEachNumberTurned(t *testing.T) {
	right, wrong := 0, 0
	for _, f := range classes() {
		b := modelBytes(f)
		for _, s := range modelSheet(f).spots {
			for _, v := range edges() {
				if v < 0 || v>>(8*s.size) != 0 {
					continue
				}
				if read(t, set(b, s, v)) {
					right++
				} else {
					wrong++
				}
			}
		}
	}
	if right < 500 || wrong < 5000 {
		t.Errorf("but %d were right, %d wrong", right, wrong)
	}
}

// TestEachNumberOfBytes sets the numbers of classes, right and wrong ones, that their bytes can tell.
func TestEachNumberOfBytes(t *testing.T) {
	for _, whole := range []api.File{least(), one(), each()} {
		for i, n := range numbersOf(&whole) {
			for _, v := range edges() {
				if v < 0 || v > 65535 || n.name == "Tag" || n.name == "A" {
					continue
				}
				f := twin(whole)
				n := numbersOf(&f)[i]
				*n.v = v
				if n.is(v) {
					parses(t, modelBytes(f), f)
				} else {
					refuses(t, modelBytes(f), api.ErrForm)
				}
			}
		}
	}
}

// TestTagsOfBytes turns the Tags of a map, of which the last one has no A.
func TestTagsOfBytes(t *testing.T) {
	for tag := range 256 {
		f := with(one(), func(f *api.File) { f.Methods[0].Maps[0].Stack[0].Tag = tag })
		switch tag {
		case 0, 1, 4, 5:
			parses(t, modelBytes(f), f)
		case 7: // and no class
			refuses(t, modelBytes(f), api.ErrForm)
			refuses(t, set(modelBytes(one()), spot{"", len(modelBytes(one())) - 3, 1}, tag), api.ErrForm, api.ErrShort)
		default:
			refuses(t, modelBytes(f), api.ErrForm)
		}
	}
	for a := range 65536 {
		f := with(one(), func(f *api.File) { f.Methods[0].Maps[0].Locals[0].A = a })
		if a == 2 || a == 4 {
			parses(t, modelBytes(f), f)
		} else if a < 30 || a%509 == 0 {
			refuses(t, modelBytes(f), api.ErrForm)
		}
	}
}

// TestPoolsOfBytes lays bytes of no pool where a pool's stand.
func TestPoolsOfBytes(t *testing.T) {
	b := leastBytes()
	head, behind := b[:8], b[8+9:]
	parses(t, slices.Concat(head, []byte{0, 3, 1, 0, 1, 'A', 7, 0, 1}, behind), least())
	for _, p := range []string{
		"\x00\x00",
		"\x00\x03\x01\x00\x01\x00\x07\x00\x01",
		"\x00\x03\x01\x00\x01A\x07\x00\x02",
		"\x00\x03\x01\x00\x01A\x07\x00\x00",
		"\x00\x03\x01\x00\x01A\x07\x00\x63",
		"\x00\x03\x02\x00\x01A\x07\x00\x01",
		"\x00\x04\x01\x00\x01A\x07\x00\x01\x05\x00\x00\x00\x00\x00\x00\x00\x00",
		"\x00\x05\x01\x00\x01A\x07\x00\x01\x05\x00\x00\x00\x00\x00\x00\x00\x00\x00",
	} {
		refuses(t, slices.Concat(head, []byte(p), behind), api.ErrForm)
	}
	for _, n := range []int{1024, 1025, 2000} {
		p := []byte{byte(n >> 8), byte(n), 1, 0, 1, 'A', 7, 0, 1}
		p = append(p, bytes.Repeat([]byte{3, 0, 0, 0, 0}, n-3)...)
		f := with(least(), func(f *api.File) { f.Pool = append(f.Pool, sized(n-3, api.Const{Tag: 3})...) })
		if n > 1024 {
			refuses(t, slices.Concat(head, p, behind), api.ErrForm)
		} else {
			makes(t, f, slices.Concat(head, p, behind))
		}
	}
}

// TestTurnedBytes sets each byte to all others, takes bytes out and lays some in.
func TestTurnedBytes(t *testing.T) {
	right, wrong := 0, 0
	count := func(b []byte) {
		if read(t, b) {
			right++
		} else {
			wrong++
		}
	}
	for _, f := range classes() {
		whole := modelBytes(f)
		for at := range whole {
			for x := range 256 {
				b := bytes.Clone(whole)
				b[at] = byte(x)
				count(b)
			}
			for _, x := range []byte{0, 1, 2, 7, 8, 255} {
				count(slices.Insert(bytes.Clone(whole), at, x))
				count(slices.Insert(bytes.Clone(whole), at, 0, x))
			}
			for n := 1; n < 20 && at+n <= len(whole); n++ {
				count(slices.Delete(bytes.Clone(whole), at, at+n))
			}
		}
	}
	if right < 5000 || wrong < 50000 {
		t.Errorf("but %d were right, %d wrong", right, wrong)
	}
}

// TestGreatCounts tells as many of each list as two or four bytes can, where next to none are there.
func TestGreatCounts(t *testing.T) {
	counts := []string{"places", "fields", "methods", "code", "traps", "maps", "locals", "stack"}
	for _, f := range classes() {
		b := modelBytes(f)
		for _, s := range modelSheet(f).spots {
			if !slices.Contains(counts, s.name) {
				continue
			}
			for at := s.at + s.size; at <= len(b); at++ {
				refuses(t, set(b, s, -1)[:at], api.ErrForm, api.ErrShort)
			}
		}
	}
}
