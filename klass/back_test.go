package klass_test

import (
	"bytes"
	"testing"

	"carpetbag/api"
	"carpetbag/klass"
)

// P14.2: there and back.

func TestThereAndBack(t *testing.T) {
	d := dice(2)
	for range 20000 {
		f := thrown(&d)
		b, e := klass.Bytes(f)
		if e != api.OK {
			t.Fatalf("Bytes of %+v: %d", f, e)
		}
		back, e := klass.Parse(b)
		if e != api.OK || !same(back, f) {
			t.Fatalf("%+v is told as %+v, %d", f, back, e)
		}
		again, e := klass.Bytes(back)
		if e != api.OK || !bytes.Equal(again, b) {
			t.Fatalf("% d is told as % d, %d", b, again, e)
		}
		if !bytes.Equal(b, modelBytes(f)) {
			t.Fatalf("% d: not the bytes of %+v", b, f)
		}
	}
}

// TestThrownBytes turns bytes of thrown classes; what is read all the same is written as it was.
func TestThrownBytes(t *testing.T) {
	d := dice(3)
	right, wrong := 0, 0
	for range 40000 {
		f := thrown(&d)
		s := modelSheet(f)
		b := s.b
		for range d.next(3) {
			switch d.next(3) {
			case 0:
				b[d.next(len(b))] = byte(d.next(256))
			case 1:
				x := s.spots[d.next(len(s.spots))]
				b[x.at+x.size-1] += byte(d.next(5) - 2)
			case 2:
				x := s.spots[d.next(len(s.spots))]
				b[x.at+x.size-1] = byte(d.next(12))
			}
		}
		if read(t, b) {
			right++
		} else {
			wrong++
		}
	}
	if right < 5000 || wrong < 5000 {
		t.Errorf("but %d were right, %d wrong", right, wrong)
	}
}

func TestThrownCuts(t *testing.T) {
	d := dice(4)
	for range 5000 {
		b := modelBytes(thrown(&d))
		refuses(t, b[:d.next(len(b))], api.ErrShort)
		refuses(t, b[:len(b)-1], api.ErrShort)
		refuses(t, append(b, byte(d.next(256))), api.ErrForm)
	}
}

// R6: what is handed in is neither changed nor kept, and what is answered is new memory.

// spoil writes over all that a class has, and its spare room.
func spoil(f api.File) {
	for i := range f.Methods {
		m := &f.Methods[i]
		for j := range m.Maps {
			fill(m.Maps[j].Locals, api.Slot{Tag: 99, A: 99})
			fill(m.Maps[j].Stack, api.Slot{Tag: 98, A: 98})
		}
		fill(m.Code, 0xee)
		fill(m.Traps, api.FileTrap{From: -1, To: -1, At: -1, Class: -1})
		fill(m.Maps, api.FileMap{At: -1})
	}
	fill(f.Pool, api.Const{Tag: 99, S: "spoilt"})
	fill(f.Fields, api.FileField{Flags: -1})
	fill(f.Methods, api.FileMethod{Flags: -1})
}

func fill[T any](l []T, item T) {
	l = l[:cap(l)]
	for i := range l {
		l[i] = item
	}
}

func TestClassesAreNeitherChangedNorKept(t *testing.T) {
	f := each()
	one, _ := klass.Bytes(f)
	two, _ := klass.Bytes(f)
	klass.Check(f)
	if !same(f, each()) {
		t.Fatal("what was handed in changed")
	}
	fill(one, 0xee)
	if !same(f, each()) {
		t.Fatal("what is answered is what was handed in")
	}
	spoil(f)
	if !bytes.Equal(two, eachBytes()) {
		t.Errorf("memory is shared: % d", two)
	}
}

// roomy is a list with something in its spare room.
func roomy[T any](l []T, item T) []T {
	room := append(append([]T(nil), l...), item, item)
	return room[:len(l)]
}

// hasRoom asks whether a list's spare room is as roomy made it.
func hasRoom[T any](l []T, is func(T) bool) bool {
	room := l[len(l) : len(l)+2]
	return is(room[0]) && is(room[1])
}

func TestSpareRoomIsNotChanged(t *testing.T) {
	for i := range each().Methods {
		f := each()
		m := &f.Methods[i]
		m.Maps = append(m.Maps, api.FileMap{At: 5})
		p := &m.Maps[0]
		p.Locals, p.Stack = roomy(p.Locals, api.Slot{Tag: 77}), roomy(p.Stack, api.Slot{Tag: 78})
		m.Code = roomy(m.Code, 0xdd)
		m.Traps = roomy(m.Traps, api.FileTrap{At: 79})
		m.Maps = roomy(m.Maps, api.FileMap{At: 80})
		f.Pool = roomy(f.Pool, api.Const{Tag: 81})
		f.Fields = roomy(f.Fields, api.FileField{Flags: 82})
		f.Methods = roomy(f.Methods, api.FileMethod{Flags: 83})
		m = &f.Methods[i]
		p = &m.Maps[0]
		makes(t, f, modelBytes(f))
		if !hasRoom(p.Locals, func(s api.Slot) bool { return s.Tag == 77 }) || !hasRoom(p.Stack, func(s api.Slot) bool { return s.Tag == 78 }) {
			t.Error("the spare room of types changed")
		}
		if !hasRoom(m.Code, func(x byte) bool { return x == 0xdd }) || !hasRoom(m.Traps, func(x api.FileTrap) bool { return x.At == 79 }) || !hasRoom(m.Maps, func(x api.FileMap) bool { return x.At == 80 }) {
			t.Error("the spare room of a method changed")
		}
		if !hasRoom(f.Pool, func(c api.Const) bool { return c.Tag == 81 }) || !hasRoom(f.Fields, func(x api.FileField) bool { return x.Flags == 82 }) || !hasRoom(f.Methods, func(x api.FileMethod) bool { return x.Flags == 83 }) {
			t.Error("the spare room of a class changed")
		}
	}
}

func TestParsedClassesAreNewMemory(t *testing.T) {
	row := append(eachBytes(), "and more"...)
	b := row[:len(eachBytes())]
	one, _ := klass.Parse(b)
	two, _ := klass.Parse(b)
	spoil(one)
	if string(row) != string(eachBytes())+"and more" {
		t.Fatalf("what was handed in changed: % d", row)
	}
	clear(row)
	if !same(two, each()) {
		t.Errorf("memory is shared: %+v", two)
	}
}

// TestListsOfOneAnswerAreTheirOwn writes over one list of an answer at a time, and its spare room.
func TestListsOfOneAnswerAreTheirOwn(t *testing.T) {
	for i := range each().Methods {
		f, _ := klass.Parse(eachBytes())
		fill(f.Methods[i].Code, 0xee)
		f.Methods[i].Code = each().Methods[i].Code
		if !same(f, each()) {
			t.Error("a code is shared")
		}
		fill(f.Methods[i].Traps, api.FileTrap{At: -1})
		f.Methods[i].Traps = each().Methods[i].Traps
		if !same(f, each()) {
			t.Error("traps are shared")
		}
		for j := range f.Methods[i].Maps {
			fill(f.Methods[i].Maps[j].Locals, api.Slot{Tag: -1})
			f.Methods[i].Maps[j].Locals = each().Methods[i].Maps[j].Locals
			if !same(f, each()) {
				t.Error("locals are shared")
			}
			fill(f.Methods[i].Maps[j].Stack, api.Slot{Tag: -1})
			f.Methods[i].Maps[j].Stack = each().Methods[i].Maps[j].Stack
			if !same(f, each()) {
				t.Error("a stack is shared")
			}
		}
	}
}

// TestCallsDontDependOnOneAnother asks once more behind what is refused.
func TestCallsDontDependOnOneAnother(t *testing.T) {
	for range 3 {
		makes(t, each(), eachBytes())
		refuses(t, eachBytes()[:99], api.ErrShort)
		refuses(t, append(eachBytes(), 1), api.ErrForm)
		makesNone(t, api.File{})
		makes(t, least(), leastBytes())
	}
}
