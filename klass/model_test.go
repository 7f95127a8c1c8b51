package klass_test

import (
	"bytes"
	"encoding/binary"

	"carpetbag/api"
	"carpetbag/pool"
)

// isA asks whether a constant of a Tag stands at a place.
func isA(l []api.Const, at, tag int) bool {
	return 0 < at && at < len(l) && l[at].Tag == tag
}

// placeOf is the first place of a text, 0 if there is none.
func placeOf(l []api.Const, text string) int {
	for at, c := range l {
		if at > 0 && c.Tag == 1 && c.S == text {
			return at
		}
	}
	return 0
}

// kind is a condition that a number has to meet.
type kind func(v int) bool

func from0to(most int) kind        { return func(v int) bool { return v >= 0 && v <= most } }
func is0or8(v int) bool            { return v == 0 || v == 8 }
func textOf(f *api.File) kind      { return func(v int) bool { return isA(f.Pool, v, 1) } }
func classOf(f *api.File) kind     { return func(v int) bool { return isA(f.Pool, v, 7) } }
func classOrNone(f *api.File) kind { return func(v int) bool { return v == 0 || isA(f.Pool, v, 7) } }

// told is a number of a class, and what it has to meet while all others stay as they are.
type told struct {
	name string
	v    *int
	is   kind
}

// numbersOf are all numbers of a class but its pool's.
func numbersOf(f *api.File) []told {
	l := []told{{"This", &f.This, classOf(f)}, {"Super", &f.Super, classOrNone(f)}}
	for i := range f.Fields {
		d := &f.Fields[i]
		l = append(l, told{"a field's Flags", &d.Flags, is0or8}, told{"a field's Name", &d.Name, textOf(f)}, told{"a field's Desc", &d.Desc, textOf(f)})
	}
	for i := range f.Methods {
		m := &f.Methods[i]
		l = append(l, told{"a method's Flags", &m.Flags, is0or8}, told{"a method's Name", &m.Name, textOf(f)}, told{"a method's Desc", &m.Desc, textOf(f)})
		l = append(l, told{"Stack", &m.Stack, from0to(64)}, told{"Locals", &m.Locals, from0to(64)})
		for j := range m.Traps {
			p := &m.Traps[j]
			l = append(l, told{"From", &p.From, from0to(65535)}, told{"To", &p.To, from0to(65535)}, told{"a trap's At", &p.At, from0to(65535)}, told{"Class", &p.Class, classOrNone(f)})
		}
		for j := range m.Maps {
			p := &m.Maps[j]
			l = append(l, told{"a map's At", &p.At, from0to(65535)})
			l = append(l, slotsOf(f, p.Locals)...)
			l = append(l, slotsOf(f, p.Stack)...)
		}
	}
	return l
}

// slotsOf are the numbers of types of a map.
func slotsOf(f *api.File, slots []api.Slot) []told {
	var l []told
	for i := range slots {
		s := &slots[i]
		l = append(l, told{"Tag", &s.Tag, func(v int) bool { return modelSlot(f, v, s.A) }})
		l = append(l, told{"A", &s.A, func(v int) bool { return modelSlot(f, s.Tag, v) }})
	}
	return l
}

// modelSlot asks whether a type of a map may be.
func modelSlot(f *api.File, tag, a int) bool {
	switch tag {
	case 0, 1, 4, 5:
		return a == 0
	case 7:
		return isA(f.Pool, a, 7)
	}
	return false
}

// modelMayBe asks whether a class may be, as the chapter's words go.
func modelMayBe(f api.File) bool {
	if pool.Check(f.Pool) != api.OK || len(f.Fields) > 64 || len(f.Methods) > 64 {
		return false
	}
	if len(f.Methods) > 0 && placeOf(f.Pool, "Code") == 0 {
		return false
	}
	for _, m := range f.Methods {
		if len(m.Code) < 1 || len(m.Code) > 4096 || len(m.Traps) > 255 || len(m.Maps) > 255 {
			return false
		}
		if len(m.Maps) > 0 && placeOf(f.Pool, "StackMap") == 0 {
			return false
		}
		for _, p := range m.Maps {
			if len(p.Locals) > 64 || len(p.Stack) > 64 {
				return false
			}
		}
	}
	for _, n := range numbersOf(&f) {
		if !n.is(*n.v) {
			return false
		}
	}
	return true
}

// spot is where a number stands in bytes.
type spot struct {
	name     string
	at, size int
}

// sheet is bytes with their spots.
type sheet struct {
	b     []byte
	spots []spot
}

func (s *sheet) put(name string, v, size int) {
	s.spots = append(s.spots, spot{name, len(s.b), size})
	s.b = append(s.b, binary.BigEndian.AppendUint64(nil, uint64(v))[8-size:]...)
}

// ahead puts how many bytes stand behind, from a place on, ahead of them.
func (s *sheet) ahead(name string, from int) {
	length := len(s.b) - from - 4
	copy(s.b[from:], binary.BigEndian.AppendUint32(nil, uint32(length)))
	s.spots = append(s.spots, spot{name, from, 4})
}

func (s *sheet) slots(name string, l []api.Slot) {
	s.put(name, len(l), 2)
	for _, x := range l {
		s.put("Tag", x.Tag, 1)
		if x.Tag == 7 {
			s.put("A", x.A, 2)
		}
	}
}

func (s *sheet) method(f api.File, m api.FileMethod) {
	s.put("Flags", m.Flags, 2)
	s.put("Name", m.Name, 2)
	s.put("Desc", m.Desc, 2)
	s.put("1", 1, 2)
	s.put("Code", placeOf(f.Pool, "Code"), 2)
	from := len(s.b)
	s.b = append(s.b, 0, 0, 0, 0)
	s.put("Stack", m.Stack, 2)
	s.put("Locals", m.Locals, 2)
	s.put("code", len(m.Code), 4)
	s.b = append(s.b, m.Code...)
	s.put("traps", len(m.Traps), 2)
	for _, p := range m.Traps {
		s.put("From", p.From, 2)
		s.put("To", p.To, 2)
		s.put("At", p.At, 2)
		s.put("Class", p.Class, 2)
	}
	if len(m.Maps) == 0 {
		s.put("no maps", 0, 2)
	} else {
		s.maps(f, m.Maps)
	}
	s.ahead("method", from)
}

func (s *sheet) maps(f api.File, l []api.FileMap) {
	s.put("some maps", 1, 2)
	s.put("StackMap", placeOf(f.Pool, "StackMap"), 2)
	from := len(s.b)
	s.b = append(s.b, 0, 0, 0, 0)
	s.put("maps", len(l), 2)
	for _, p := range l {
		s.put("At", p.At, 2)
		s.slots("locals", p.Locals)
		s.slots("stack", p.Stack)
	}
	s.ahead("all maps", from)
}

// modelSheet are the bytes of a class, also of one that may not be, as far as its numbers fit; its pool has to.
func modelSheet(f api.File) sheet {
	var s sheet
	s.put("magic", 0xcafebabe, 4)
	s.put("0", 0, 2)
	s.put("45", 45, 2)
	p, _ := pool.Bytes(f.Pool)
	s.spots = append(s.spots, spot{"places", len(s.b), 2})
	s.b = append(s.b, p...)
	s.put("33", 33, 2)
	s.put("This", f.This, 2)
	s.put("Super", f.Super, 2)
	s.put("0", 0, 2)
	s.put("fields", len(f.Fields), 2)
	for _, d := range f.Fields {
		s.put("Flags", d.Flags, 2)
		s.put("Name", d.Name, 2)
		s.put("Desc", d.Desc, 2)
		s.put("0", 0, 2)
	}
	s.put("methods", len(f.Methods), 2)
	for _, m := range f.Methods {
		s.method(f, m)
	}
	s.put("0", 0, 2)
	return s
}

func modelBytes(f api.File) []byte { return modelSheet(f).b }

// source is what bytes are read from: only zeros behind their end, from then on.
type source struct {
	b     []byte
	read  int
	short bool
}

func (s *source) take(n int) []byte {
	if s.short || n > len(s.b)-s.read {
		s.short = true
		return nil
	}
	s.read += n
	return bytes.Clone(s.b[s.read-n : s.read])
}

func (s *source) number(n int) int {
	v := 0
	for _, x := range s.take(n) {
		v = v*256 + int(x)
	}
	return v
}

// length reads a length and asks whether so many bytes are there.
func (s *source) length() {
	if s.number(4) > len(s.b)-s.read {
		s.short = true
	}
}

func (s *source) slots() []api.Slot {
	var l []api.Slot
	for range s.number(2) {
		if s.short {
			break
		}
		x := api.Slot{Tag: s.number(1)}
		if x.Tag == 7 {
			x.A = s.number(2)
		}
		l = append(l, x)
	}
	return l
}

func (s *source) method() api.FileMethod {
	m := api.FileMethod{Flags: s.number(2), Name: s.number(2), Desc: s.number(2)}
	s.number(4)
	s.length()
	m.Stack, m.Locals = s.number(2), s.number(2)
	m.Code = s.take(s.number(4))
	for range s.number(2) {
		if s.short {
			break
		}
		m.Traps = append(m.Traps, api.FileTrap{From: s.number(2), To: s.number(2), At: s.number(2), Class: s.number(2)})
	}
	if s.number(2) == 0 {
		return m
	}
	s.number(2)
	s.length()
	for range s.number(2) {
		if s.short {
			break
		}
		m.Maps = append(m.Maps, api.FileMap{At: s.number(2), Locals: s.slots(), Stack: s.slots()})
	}
	return m
}

// modelParse is the class whose bytes b is, and no errors; or those of which one has to be answered: bytes that end ahead of what they tell may have other faults, too.
func modelParse(b []byte) (api.File, []api.Errno) {
	s := source{b: b}
	s.take(8)
	var f api.File
	if !s.short {
		l, n, e := pool.Parse(b[s.read:])
		if e != api.OK {
			return api.File{}, []api.Errno{api.ErrForm, api.ErrShort}
		}
		f.Pool = l
		s.read += n
	}
	s.number(2)
	f.This, f.Super = s.number(2), s.number(2)
	s.number(2)
	for range s.number(2) {
		if s.short {
			break
		}
		f.Fields = append(f.Fields, api.FileField{Flags: s.number(2), Name: s.number(2), Desc: s.number(2)})
		s.number(2)
	}
	for range s.number(2) {
		if s.short {
			break
		}
		f.Methods = append(f.Methods, s.method())
	}
	s.number(2)
	if s.short {
		return api.File{}, []api.Errno{api.ErrForm, api.ErrShort}
	}
	// What the numbers that are always the same tell, and how long parts are, is asked by writing all of it once more.
	if !modelMayBe(f) || !bytes.Equal(modelBytes(f), b) {
		return api.File{}, []api.Errno{api.ErrForm}
	}
	return f, nil
}
