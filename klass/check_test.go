package klass_test

import (
	"bytes"
	"slices"
	"strings"
	"testing"

	"carpetbag/api"
	"carpetbag/klass"
	"carpetbag/pool"
)

// P14.1: which class may be, and its bytes.

func TestExample(t *testing.T) {
	refuses(t, nil, api.ErrShort)
	refuses(t, []byte{}, api.ErrShort)
}

func TestWrittenOut(t *testing.T) {
	makes(t, each(), eachBytes())
	makes(t, least(), leastBytes())
}

// TestTheModel holds the model against what is written out.
func TestTheModel(t *testing.T) {
	for _, x := range []struct {
		f api.File
		b []byte
	}{{each(), eachBytes()}, {least(), leastBytes()}} {
		if !modelMayBe(x.f) || !bytes.Equal(modelBytes(x.f), x.b) {
			t.Errorf("the model tells % d of %+v", modelBytes(x.f), x.f)
		}
		if f, wanted := modelParse(x.b); len(wanted) > 0 || !same(f, x.f) {
			t.Errorf("the model tells %+v, %d of % d", f, wanted, x.b)
		}
	}
	if modelMayBe(api.File{}) {
		t.Error("the model takes a class of nothing")
	}
}

func TestClassOfNothing(t *testing.T) {
	makesNone(t, api.File{})
	makesNone(t, api.File{Pool: []api.Const{{}}})
}

// TestEachNumberAlone sets each number of a class to all edges; all others stay right.
func TestEachNumberAlone(t *testing.T) {
	for _, whole := range []api.File{least(), one(), each()} {
		for i := range numbersOf(&whole) {
			right, wrong := 0, 0
			for _, v := range edges() {
				f := twin(whole)
				n := numbersOf(&f)[i]
				*n.v = v
				if n.is(v) {
					right++
					makes(t, f, modelBytes(f))
				} else {
					wrong++
					makesNone(t, f)
				}
			}
			if right == 0 || wrong < 10 {
				t.Errorf("%s: %d were right, %d wrong", numbersOf(&whole)[i].name, right, wrong)
			}
		}
	}
}

// TestPlaces asks This, Super and all the others for what stands at their places, written out.
func TestPlaces(t *testing.T) {
	texts := []int{1, 3, 5, 6, 7, 8, 9, 10}
	classes := []int{2, 4}
	var places []int
	for _, from := range []int{0, 256, 65536, 1 << 17, 1 << 32, -65536, -1 << 32} {
		for at := -3; at < 25; at++ {
			places = append(places, from+at)
		}
	}
	for _, at := range places {
		text, class := slices.Contains(texts, at), slices.Contains(classes, at)
		for _, x := range []struct {
			is     bool
			change func(f *api.File)
		}{
			{class, func(f *api.File) { f.This = at }},
			{class || at == 0, func(f *api.File) { f.Super = at }},
			{text, func(f *api.File) { f.Fields[0].Name = at }},
			{text, func(f *api.File) { f.Fields[0].Desc = at }},
			{text, func(f *api.File) { f.Methods[0].Name = at }},
			{text, func(f *api.File) { f.Methods[0].Desc = at }},
			{class || at == 0, func(f *api.File) { f.Methods[0].Traps[0].Class = at }},
			{class, func(f *api.File) { f.Methods[0].Maps[0].Locals[0].A = at }},
			{at == 0, func(f *api.File) { f.Methods[0].Maps[0].Stack[0].A = at }},
		} {
			want := api.OK
			if !x.is {
				want = api.ErrForm
			}
			if e := klass.Check(with(one(), x.change)); e != want {
				t.Fatalf("Check with a place %d: %d, not %d", at, e, want)
			}
		}
	}
}

// TestTags lays each Tag in locals and stacks, beside no A, and beside places.
func TestTags(t *testing.T) {
	for tag := -260; tag < 800; tag++ {
		for a := -1; a < 20; a++ {
			may := a == 0 && (tag == 0 || tag == 1 || tag == 4 || tag == 5) || tag == 7 && (a == 2 || a == 4)
			x := api.Slot{Tag: tag, A: a}
			for _, f := range []api.File{
				with(one(), func(f *api.File) { f.Methods[0].Maps[0].Locals[0] = x }),
				with(one(), func(f *api.File) { f.Methods[0].Maps[0].Stack = append(f.Methods[0].Maps[0].Stack, x) }),
			} {
				if may {
					makes(t, f, modelBytes(f))
				} else if e := klass.Check(f); e != api.ErrForm {
					t.Fatalf("Check with %v: %d", x, e)
				}
			}
		}
	}
}

// sized is a list of so many items, all the same.
func sized[T any](n int, item T) []T { return slices.Repeat([]T{item}, n) }

// TestHowMany lays as many of each list as may be, and one more, at each of its places.
func TestHowMany(t *testing.T) {
	for _, x := range []struct {
		name        string
		least, most int
		change      func(f *api.File, n int)
	}{
		{"fields", 0, 64, func(f *api.File, n int) { f.Fields = sized(n, f.Fields[0]) }},
		{"methods", 0, 64, func(f *api.File, n int) { f.Methods = sized(n, f.Methods[0]) }},
		{"methods with maps", 0, 64, func(f *api.File, n int) { f.Methods = sized(n, one().Methods[0]) }},
		{"the first code", 1, 4096, func(f *api.File, n int) { f.Methods[0].Code = sized(n, byte(177)) }},
		{"a code in the midst", 1, 4096, func(f *api.File, n int) { f.Methods[1].Code = sized(n, byte(0)) }},
		{"the last code", 1, 4096, func(f *api.File, n int) { f.Methods[2].Code = sized(n, byte(255)) }},
		{"traps", 0, 255, func(f *api.File, n int) { f.Methods[1].Traps = sized(n, f.Methods[1].Traps[0]) }},
		{"the last traps", 0, 255, func(f *api.File, n int) { f.Methods[2].Traps = sized(n, api.FileTrap{}) }},
		{"maps", 0, 255, func(f *api.File, n int) { f.Methods[1].Maps = sized(n, f.Methods[1].Maps[0]) }},
		{"empty maps", 0, 255, func(f *api.File, n int) { f.Methods[0].Maps = sized(n, api.FileMap{}) }},
		{"locals", 0, 64, func(f *api.File, n int) { f.Methods[1].Maps[0].Locals = sized(n, api.Slot{Tag: 7, A: 4}) }},
		{"the last locals", 0, 64, func(f *api.File, n int) { f.Methods[1].Maps[2].Locals = sized(n, api.Slot{Tag: 4}) }},
		{"a stack", 0, 64, func(f *api.File, n int) { f.Methods[1].Maps[1].Stack = sized(n, api.Slot{Tag: 7, A: 2}) }},
		{"a stack of longs", 0, 64, func(f *api.File, n int) { f.Methods[1].Maps[0].Stack = sized(n, api.Slot{Tag: 4}) }},
	} {
		for _, n := range []int{0, 1, 2, 63, 64, 65, 66, 128, 254, 255, 256, 257, 512, 4095, 4096, 4097, 4098, 65535, 65536, 65537} {
			f := with(each(), func(f *api.File) { x.change(f, n) })
			may := x.least <= n && n <= x.most
			if may != judged(t, f) {
				t.Errorf("%s: the model is wrong of %d", x.name, n)
			}
			// The numbers of what is too much still fit the bytes.
			if x.most < n && n <= 4098 {
				refuses(t, modelBytes(f), api.ErrForm)
			}
		}
	}
}

// TestAllAtOnce lays as many of all as may be.
func TestAllAtOnce(t *testing.T) {
	f := least()
	f.Pool = append(f.Pool, api.Const{Tag: 1, S: "Code"}, api.Const{Tag: 1, S: "StackMap"})
	m := api.FileMethod{
		Flags: 8, Name: 1, Desc: 1, Stack: 64, Locals: 64,
		Code:  sized(4096, byte(7)),
		Traps: sized(255, api.FileTrap{From: 65535, To: 65535, At: 65535, Class: 2}),
		Maps:  sized(255, api.FileMap{At: 65535, Locals: sized(64, api.Slot{Tag: 7, A: 2}), Stack: sized(64, api.Slot{Tag: 7, A: 2})}),
	}
	f.Fields = sized(64, api.FileField{Flags: 8, Name: 1, Desc: 1})
	f.Methods = sized(64, m)
	wanted := modelBytes(f)
	b, e := klass.Bytes(f)
	if e != api.OK || !bytes.Equal(b, wanted) {
		t.Fatalf("Bytes: %d bytes, %d, not %d", len(b), e, len(wanted))
	}
	got, e := klass.Parse(b)
	if e != api.OK || !same(got, f) {
		t.Fatalf("Parse: %d", e)
	}
	f.Methods[63].Maps[254].Stack = append(f.Methods[63].Maps[254].Stack, api.Slot{})
	if e := klass.Check(f); e != api.ErrForm {
		t.Errorf("Check with one more: %d", e)
	}
}

// TestCodesAreNotAsked lays all bytes as codes: which instructions they are is not asked here.
func TestCodesAreNotAsked(t *testing.T) {
	for x := range 256 {
		f := with(one(), func(f *api.File) { f.Methods[0].Code = []byte{byte(x)} })
		makes(t, f, modelBytes(f))
		f = with(one(), func(f *api.File) { f.Methods[0].Code = []byte{byte(x), byte(x), 255, 0} })
		makes(t, f, modelBytes(f))
	}
}

// TestNamesAreNotAsked lays texts that are no names, and members of one name.
func TestNamesAreNotAsked(t *testing.T) {
	f := least()
	f.Pool = []api.Const{{}, {Tag: 1, S: ""}, {Tag: 7, A: 1}, {Tag: 1, S: "Code"}, {Tag: 7, A: 3}}
	f.Super = 2
	f.Fields = sized(2, api.FileField{Name: 1, Desc: 1})
	f.Methods = sized(2, api.FileMethod{Name: 3, Desc: 3, Code: []byte{0}})
	makes(t, f, modelBytes(f))
	f.This, f.Super = 4, 4
	makes(t, f, modelBytes(f))
}

// renamed is a class in whose pool a text stands instead of another.
func renamed(f api.File, from, to string) api.File {
	return with(f, func(f *api.File) {
		for at := range f.Pool {
			if f.Pool[at].S == from {
				f.Pool[at].S = to
			}
		}
	})
}

// TestPoolsWithoutNames lets "Code" and "StackMap" out of the pool, of classes that need them and that don't.
func TestPoolsWithoutNames(t *testing.T) {
	bare := with(each(), func(f *api.File) { f.Methods = nil })
	unmapped := with(each(), func(f *api.File) { f.Methods[1].Maps = nil })
	for _, other := range []string{"", "code", "CODE", "Cod", "Codes", "Code ", "Code/", "stackMap", "Stackmap", "StackMaps", "StackMapTable", "x"} {
		makesNone(t, renamed(each(), "Code", other))
		makesNone(t, renamed(each(), "StackMap", other))
		makesNone(t, renamed(unmapped, "Code", other))
		makesNone(t, renamed(one(), "Code", other))
		makesNone(t, renamed(one(), "StackMap", other))
		f := renamed(unmapped, "StackMap", other)
		makes(t, f, modelBytes(f))
		f = renamed(bare, "StackMap", other)
		makes(t, f, modelBytes(f))
		f = renamed(renamed(bare, "Code", other), "StackMap", other)
		makes(t, f, modelBytes(f))
	}
	// Each kind of member alone.
	f := with(renamed(each(), "Code", ""), func(f *api.File) { f.Methods = f.Methods[:1] })
	makesNone(t, f)
	for i := range 3 {
		f := with(unmapped, func(f *api.File) { f.Methods[i].Maps = []api.FileMap{{}} })
		makes(t, f, modelBytes(f))
		makesNone(t, renamed(f, "StackMap", ""))
	}
}

// TestNamesOfOtherKinds has a string of the text "Code", which is one of the pool, and a class of it.
func TestNamesOfOtherKinds(t *testing.T) {
	for _, tag := range []int{7, 8} {
		f := least()
		f.Pool = append(f.Pool, api.Const{Tag: tag, A: 4}, api.Const{Tag: 1, S: "Code"})
		f.Methods = []api.FileMethod{{Name: 1, Desc: 1, Code: []byte{1}}}
		b := modelBytes(f)
		if !bytes.Contains(b, []byte{0, 1, 0, 4, 0, 0, 0, 13}) {
			t.Fatal("the model tells another place")
		}
		makes(t, f, b)
	}
}

// TestNamesTwice has "Code" and "StackMap" more than once in a pool: the first place is told, any other refused.
func TestNamesTwice(t *testing.T) {
	for _, name := range []string{"Code", "StackMap"} {
		first := placeOf(constants(), name)
		second := len(constants())
		f := with(one(), func(f *api.File) { f.Pool = append(f.Pool, api.Const{Tag: 1, S: name}, api.Const{Tag: 1, S: name}) })
		makes(t, f, modelBytes(f))
		for _, s := range modelSheet(f).spots {
			if s.name != name {
				continue
			}
			b := modelBytes(f)
			if b[s.at+1] != byte(first) {
				t.Fatalf("the model tells %d, not %d", b[s.at+1], first)
			}
			b[s.at+1] = byte(second)
			refuses(t, b, api.ErrForm)
			b[s.at+1]++
			refuses(t, b, api.ErrForm)
		}
		// The second one is the first, when the first has another text.
		f.Pool[first].S = "other"
		b := modelBytes(f)
		makes(t, f, b)
		if bytes.Equal(b, modelBytes(one())) {
			t.Fatal("nothing changed")
		}
	}
}

// TestFarNames has the names at places of two bytes.
func TestFarNames(t *testing.T) {
	for _, n := range []int{255, 256, 257, 1022} {
		f := one()
		f.Pool[9].S, f.Pool[10].S = "Cod", "StackMa"
		for len(f.Pool) < n {
			f.Pool = append(f.Pool, api.Const{Tag: 3})
		}
		f.Pool = append(f.Pool, api.Const{Tag: 1, S: "StackMap"}, api.Const{Tag: 1, S: "Code"})
		b := modelBytes(f)
		if !bytes.Contains(b, []byte{0, 1, byte(n >> 8), byte(n), 0, 0, 0}) || !bytes.Contains(b, []byte{0, 1, byte((n + 1) >> 8), byte(n + 1), 0, 0, 0}) {
			t.Fatal("the model tells other places")
		}
		makes(t, f, b)
	}
}

// TestPoolsThatMayNotBe changes a pool alone; all that the class needs of it is there.
func TestPoolsThatMayNotBe(t *testing.T) {
	for name, change := range map[string]func(l []api.Const) []api.Const{
		"a Tag at 0":             func(l []api.Const) []api.Const { l[0].Tag = 1; return l },
		"a number at 0":          func(l []api.Const) []api.Const { l[0].N = 1; return l },
		"a Tag that is none":     func(l []api.Const) []api.Const { l[13].Tag = 2; return l },
		"a hole":                 func(l []api.Const) []api.Const { l[13] = api.Const{}; return l },
		"a long's second place":  func(l []api.Const) []api.Const { l[12].Tag = 3; return l },
		"a long at the end":      func(l []api.Const) []api.Const { return append(l, api.Const{Tag: 5}) },
		"no text":                func(l []api.Const) []api.Const { l[5].S = "\x00"; return l },
		"a text beside a number": func(l []api.Const) []api.Const { l[13].S = "x"; return l },
		"a great number":         func(l []api.Const) []api.Const { l[13].N = 1 << 31; return l },
		"a place of no text":     func(l []api.Const) []api.Const { l[14].A = 2; return l },
		"a place that isn't":     func(l []api.Const) []api.Const { l[14].A = 99; return l },
		"no name":                func(l []api.Const) []api.Const { l[16].B = 5; return l },
		"B of a class":           func(l []api.Const) []api.Const { l[2].B = 1; return l },
		"N of This":              func(l []api.Const) []api.Const { l[2].N = 1; return l },
		"a number of a text":     func(l []api.Const) []api.Const { l[9].N = 1; return l },
		"too many":               func(l []api.Const) []api.Const { return append(l, make([]api.Const, 1025-len(l))...) },
		"more than may be": func(l []api.Const) []api.Const {
			return append(l, sized(1025-len(l), api.Const{Tag: 3})...)
		},
		"too long a text": func(l []api.Const) []api.Const { l[5].S = strings.Repeat("x", 65536); return l },
	} {
		for _, whole := range []api.File{one(), each()} {
			f := with(whole, func(f *api.File) { f.Pool = change(f.Pool) })
			if pool.Check(f.Pool) != api.ErrForm {
				t.Errorf("%s: the pool may be", name)
			}
			makesNone(t, f)
		}
	}
	for _, n := range []int{1023, 1024} {
		f := with(each(), func(f *api.File) { f.Pool = append(f.Pool, sized(n-len(f.Pool), api.Const{Tag: 3})...) })
		makes(t, f, modelBytes(f))
	}
	makesNone(t, with(each(), func(f *api.File) { f.Pool = nil }))
	makesNone(t, with(least(), func(f *api.File) { f.Pool = f.Pool[:2] }))
	f := with(each(), func(f *api.File) { f.Pool[5].S = strings.Repeat("x", 65535) })
	makes(t, f, modelBytes(f))
}

// TestEmptyLists asks lists that are empty, and not nil.
func TestEmptyLists(t *testing.T) {
	f := least()
	f.Fields, f.Methods = []api.FileField{}, []api.FileMethod{}
	makes(t, f, leastBytes())
	f = one()
	f.Methods[0].Traps, f.Methods[0].Maps = []api.FileTrap{}, []api.FileMap{}
	makes(t, f, modelBytes(f))
	f.Methods[0].Maps = []api.FileMap{{Locals: []api.Slot{}, Stack: []api.Slot{}}}
	makes(t, f, modelBytes(f))
	f.Methods[0].Code = []byte{}
	makesNone(t, f)
	f.Methods[0].Code = nil
	makesNone(t, f)
}

// TestThrownClasses changes numbers of thrown classes and holds all calls against the model.
func TestThrownClasses(t *testing.T) {
	d := dice(1)
	edges := edges()
	right, wrong := 0, 0
	for range 20000 {
		f := thrown(&d)
		for range d.next(3) {
			l := numbersOf(&f)
			n := l[d.next(len(l))]
			switch d.next(3) {
			case 0:
				*n.v = edges[d.next(len(edges))]
			case 1:
				*n.v += d.next(5) - 2
			case 2:
				f.Pool[d.next(len(f.Pool))].S = []string{"", "Code", "StackMap"}[d.next(3)]
			}
		}
		if judged(t, f) {
			right++
		} else {
			wrong++
		}
	}
	if right < 3000 || wrong < 3000 {
		t.Errorf("but %d were right, %d wrong", right, wrong)
	}
}
