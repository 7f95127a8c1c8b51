package klass_test

import (
	"bytes"
	"math"
	"reflect"
	"slices"
	"testing"

	"carpetbag/api"
	"carpetbag/klass"
)

// constants are a pool with constants of each Tag.
func constants() []api.Const {
	return []api.Const{
		{},
		{Tag: 1, S: "a/B"},
		{Tag: 7, A: 1},
		{Tag: 1, S: "x/Super"},
		{Tag: 7, A: 3},
		{Tag: 1, S: "count"},
		{Tag: 1, S: "I"},
		{Tag: 1, S: "run"},
		{Tag: 1, S: "(IJ)V"},
		{Tag: 1, S: "Code"},
		{Tag: 1, S: "StackMap"},
		{Tag: 5, N: 7},
		{},
		{Tag: 3, N: -2},
		{Tag: 8, A: 5},
		{Tag: 12, A: 5, B: 6},
		{Tag: 9, A: 2, B: 15},
		{Tag: 12, A: 7, B: 8},
		{Tag: 10, A: 2, B: 17},
	}
}

// each is a class with all that a class may have.
func each() api.File {
	return api.File{
		Pool:   constants(),
		This:   2,
		Super:  4,
		Fields: []api.FileField{{Name: 5, Desc: 6}, {Flags: 8, Name: 7, Desc: 6}},
		Methods: []api.FileMethod{
			{Flags: 8, Name: 7, Desc: 8, Stack: 3, Locals: 4, Code: []byte{177}},
			{
				Name: 5, Desc: 8, Stack: 64,
				Code:  []byte{0, 16, 255, 87, 177},
				Traps: []api.FileTrap{{From: 0, To: 3, At: 4, Class: 4}, {From: 65535, To: 258, At: 0}},
				Maps: []api.FileMap{
					{At: 3, Locals: []api.Slot{{Tag: 1}, {Tag: 7, A: 2}, {Tag: 4}}, Stack: []api.Slot{{Tag: 0}, {Tag: 5}}},
					{At: 65534},
					{At: 1, Stack: []api.Slot{{Tag: 7, A: 4}}},
				},
			},
			{Flags: 8, Name: 8, Desc: 1, Locals: 64, Code: []byte{1, 2}, Traps: []api.FileTrap{{From: 1, To: 1, At: 1, Class: 2}}},
		},
	}
}

// eachBytes are the bytes of each, written out.
func eachBytes() []byte {
	return slices.Concat(
		[]byte{0xca, 0xfe, 0xba, 0xbe, 0, 0, 0, 45},
		[]byte{0, 19},
		[]byte{1, 0, 3}, []byte("a/B"),
		[]byte{7, 0, 1},
		[]byte{1, 0, 7}, []byte("x/Super"),
		[]byte{7, 0, 3},
		[]byte{1, 0, 5}, []byte("count"),
		[]byte{1, 0, 1}, []byte("I"),
		[]byte{1, 0, 3}, []byte("run"),
		[]byte{1, 0, 5}, []byte("(IJ)V"),
		[]byte{1, 0, 4}, []byte("Code"),
		[]byte{1, 0, 8}, []byte("StackMap"),
		[]byte{5, 0, 0, 0, 0, 0, 0, 0, 7},
		[]byte{3, 255, 255, 255, 254},
		[]byte{8, 0, 5},
		[]byte{12, 0, 5, 0, 6},
		[]byte{9, 0, 2, 0, 15},
		[]byte{12, 0, 7, 0, 8},
		[]byte{10, 0, 2, 0, 17},
		[]byte{0, 33, 0, 2, 0, 4, 0, 0},
		[]byte{0, 2},
		[]byte{0, 0, 0, 5, 0, 6, 0, 0},
		[]byte{0, 8, 0, 7, 0, 6, 0, 0},
		[]byte{0, 3},
		[]byte{0, 8, 0, 7, 0, 8, 0, 1, 0, 9, 0, 0, 0, 13},
		[]byte{0, 3, 0, 4, 0, 0, 0, 1, 177, 0, 0, 0, 0},
		[]byte{0, 0, 0, 5, 0, 8, 0, 1, 0, 9, 0, 0, 0, 69},
		[]byte{0, 64, 0, 0, 0, 0, 0, 5, 0, 16, 255, 87, 177},
		[]byte{0, 2, 0, 0, 0, 3, 0, 4, 0, 4, 255, 255, 1, 2, 0, 0, 0, 0},
		[]byte{0, 1, 0, 10, 0, 0, 0, 30, 0, 3},
		[]byte{0, 3, 0, 3, 1, 7, 0, 2, 4, 0, 2, 0, 5},
		[]byte{255, 254, 0, 0, 0, 0},
		[]byte{0, 1, 0, 0, 0, 1, 7, 0, 4},
		[]byte{0, 8, 0, 8, 0, 1, 0, 1, 0, 9, 0, 0, 0, 22},
		[]byte{0, 0, 0, 64, 0, 0, 0, 2, 1, 2, 0, 1, 0, 1, 0, 1, 0, 1, 0, 2, 0, 0},
		[]byte{0, 0},
	)
}

// least is a class with the least that a class may have.
func least() api.File {
	return api.File{Pool: []api.Const{{}, {Tag: 1, S: "A"}, {Tag: 7, A: 1}}, This: 2}
}

// leastBytes are the bytes of least, written out.
func leastBytes() []byte {
	return []byte{
		0xca, 0xfe, 0xba, 0xbe, 0, 0, 0, 45,
		0, 3, 1, 0, 1, 'A', 7, 0, 1,
		0, 33, 0, 2, 0, 0, 0, 0, 0, 0, 0, 0, 0, 0,
	}
}

// one is a class with one field, and one method that has one map and one trap.
func one() api.File {
	f := each()
	f.Fields = f.Fields[:1]
	f.Methods = []api.FileMethod{{Name: 7, Desc: 8, Code: []byte{177}, Traps: []api.FileTrap{{To: 1}}, Maps: []api.FileMap{{Locals: []api.Slot{{Tag: 7, A: 2}}, Stack: []api.Slot{{Tag: 1}}}}}}
	return f
}

// twin is the same class in new memory; of lists without items nil.
func twin(f api.File) api.File {
	f.Pool = some(f.Pool)
	f.Fields = some(f.Fields)
	f.Methods = some(f.Methods)
	for i := range f.Methods {
		m := &f.Methods[i]
		m.Code = some(m.Code)
		m.Traps = some(m.Traps)
		m.Maps = some(m.Maps)
		for j := range m.Maps {
			m.Maps[j].Locals = some(m.Maps[j].Locals)
			m.Maps[j].Stack = some(m.Maps[j].Stack)
		}
	}
	return f
}

// some is a list in new memory, or nil.
func some[T any](l []T) []T { return append([]T(nil), l...) }

// same asks whether two classes are the same: an empty list may be nil.
func same(f, g api.File) bool { return reflect.DeepEqual(twin(f), twin(g)) }

// with is a class with a change, all in new memory.
func with(f api.File, change func(*api.File)) api.File {
	f = twin(f)
	change(&f)
	return f
}

// edges are numbers at which some number stops fitting, or is the same in fewer bytes, and places of a pool.
func edges() []int {
	l := []int{math.MinInt, math.MaxInt, 1 << 32, 1<<32 + 2, -1 << 32, 2 - 1<<32}
	for _, v := range []int{32, 64, 128, 256, 512, 1024, 4096, 65536} {
		l = append(l, v-1, v, v+1, v+2, v+7, v+8, -v, 2-v, 7-v, 8-v)
	}
	for v := -3; v < 25; v++ {
		l = append(l, v)
	}
	return l
}

// makes holds all calls against a class that may be, and its bytes.
func makes(t testing.TB, f api.File, wanted []byte) {
	t.Helper()
	whole := twin(f)
	if e := klass.Check(f); e != api.OK {
		t.Fatalf("Check of %+v: %d", f, e)
	}
	b, e := klass.Bytes(f)
	if e != api.OK || !bytes.Equal(b, wanted) {
		t.Fatalf("Bytes of %+v: % d, %d, not % d", f, b, e, wanted)
	}
	if !same(f, whole) {
		t.Fatal("what was handed in changed")
	}
	parses(t, wanted, f)
}

// makesNone asks whether the calls refuse a class that may not be.
func makesNone(t testing.TB, f api.File) {
	t.Helper()
	whole := twin(f)
	if e := klass.Check(f); e != api.ErrForm {
		t.Fatalf("Check of %+v: %d, not ErrForm", f, e)
	}
	if b, e := klass.Bytes(f); len(b) != 0 || e != api.ErrForm {
		t.Fatalf("Bytes of %+v: %d bytes, %d, not ErrForm", f, len(b), e)
	}
	if !same(f, whole) {
		t.Fatal("what was handed in changed")
	}
}

// judged holds all calls against what the model tells of a class, and answers whether it may be.
func judged(t testing.TB, f api.File) bool {
	t.Helper()
	if modelMayBe(f) {
		makes(t, f, modelBytes(f))
		return true
	}
	makesNone(t, f)
	return false
}

// parses asks whether bytes are parsed.
func parses(t testing.TB, b []byte, wanted api.File) {
	t.Helper()
	whole := bytes.Clone(b)
	f, e := klass.Parse(b)
	if e != api.OK || !same(f, wanted) {
		t.Fatalf("Parse: %+v, %d, not %+v", f, e, wanted)
	}
	if !bytes.Equal(b, whole) {
		t.Fatal("what was handed in changed")
	}
}

// refuses asks whether bytes are refused, with one of the errors.
func refuses(t testing.TB, b []byte, wanted ...api.Errno) {
	t.Helper()
	whole := bytes.Clone(b)
	f, e := klass.Parse(b)
	if !reflect.DeepEqual(f, api.File{}) || !slices.Contains(wanted, e) {
		t.Fatalf("Parse of % d (%d bytes): %+v, %d, not one of %d", b[:min(len(b), 999)], len(b), f, e, wanted)
	}
	if !bytes.Equal(b, whole) {
		t.Fatal("what was handed in changed")
	}
}

// read holds Parse against what the model tells of bytes, and what it tells against Bytes; it answers whether they are a class's.
func read(t testing.TB, b []byte) bool {
	t.Helper()
	f, wanted := modelParse(b)
	if len(wanted) > 0 {
		refuses(t, b, wanted...)
		return false
	}
	makes(t, f, b)
	return true
}

// dice tells numbers that look as if thrown, the same ones each time.
type dice uint64

func (d *dice) next(below int) int {
	*d = *d*6364136223846793005 + 1442695040888963407
	return int(uint64(*d)>>33) % below
}

// upTo is a number from 0 to the most, now and then the least or the most of them.
func (d *dice) upTo(most int) int {
	switch d.next(8) {
	case 0:
		return 0
	case 1:
		return most
	}
	return d.next(most + 1)
}

// thrownPool is a pool with all that a class has to have; its places stand in any order.
func thrownPool(d *dice) []api.Const {
	texts := []string{"Code", "StackMap", "", "a/B", "()V", "StackMaps", "code"}
	l := []api.Const{{Tag: 7}}
	for _, s := range texts[:2+d.next(6)] {
		l = append(l, api.Const{Tag: 1, S: s})
	}
	for range d.next(12) {
		switch d.next(4) {
		case 0:
			l = append(l, api.Const{Tag: 1, S: texts[d.next(len(texts))]})
		case 1:
			l = append(l, api.Const{Tag: 3, N: int64(d.next(1 << 31))})
		case 2:
			l = append(l, api.Const{Tag: 5, N: int64(d.next(1<<31)) << d.next(32)})
		case 3:
			l = append(l, api.Const{Tag: 7 + d.next(2)})
		}
	}
	for i := range l {
		j := d.next(i + 1)
		l[i], l[j] = l[j], l[i]
	}
	p := []api.Const{{}}
	for _, c := range l {
		p = append(p, c)
		if c.Tag == 5 {
			p = append(p, api.Const{})
		}
	}
	for i := range p {
		if p[i].Tag == 7 || p[i].Tag == 8 {
			p[i].A = someOf(d, p, 1)
		}
	}
	return p
}

// someOf is a place of a pool at which a Tag stands.
func someOf(d *dice, l []api.Const, tag int) int {
	for {
		if at := d.next(len(l)); l[at].Tag == tag {
			return at
		}
	}
}

// thrown is a class that may be.
func thrown(d *dice) api.File {
	f := api.File{Pool: thrownPool(d)}
	text := func() int { return someOf(d, f.Pool, 1) }
	class := func() int { return someOf(d, f.Pool, 7) }
	classOrNone := func() int { return d.next(2) * class() }
	f.This, f.Super = class(), classOrNone()
	for range d.next(4) {
		f.Fields = append(f.Fields, api.FileField{Flags: 8 * d.next(2), Name: text(), Desc: text()})
	}
	slots := func() []api.Slot {
		l := make([]api.Slot, d.next(4))
		for i := range l {
			l[i].Tag = []int{0, 1, 4, 5, 7, 7}[d.next(6)]
			if l[i].Tag == 7 {
				l[i].A = class()
			}
		}
		return l
	}
	for range d.next(4) {
		m := api.FileMethod{Flags: 8 * d.next(2), Name: text(), Desc: text(), Stack: d.upTo(64), Locals: d.upTo(64)}
		m.Code = make([]byte, 1+d.next(6))
		for i := range m.Code {
			m.Code[i] = byte(d.next(256))
		}
		for range d.next(3) {
			m.Traps = append(m.Traps, api.FileTrap{From: d.upTo(65535), To: d.upTo(65535), At: d.upTo(65535), Class: classOrNone()})
		}
		for range d.next(4) {
			m.Maps = append(m.Maps, api.FileMap{At: d.upTo(65535), Locals: slots(), Stack: slots()})
		}
		f.Methods = append(f.Methods, m)
	}
	return f
}
