package asm_test

import (
	"math"
	"reflect"
	"strings"
	"testing"

	"carpetbag/api"
	"carpetbag/ops"
)

// P15.1: what Lower answers.

func TestLowerWrittenOut(t *testing.T) {
	lowers(t, eachUnit())
	f := lowers(t, api.Unit{Name: "a/B"})
	if f.Super != 0 || len(f.Fields)+len(f.Methods) > 0 {
		t.Errorf("%+v", f)
	}
	lowers(t, api.Unit{Name: "a/B", Super: "a/B"})
	lowersNone(t, api.Unit{})
	lowersNone(t, api.Unit{Super: "a/B"})
}

// TestLoweredCode asks the bytes of a code that has nothing of a pool.
func TestLoweredCode(t *testing.T) {
	f := lowers(t, unitOf(
		api.Ins{Op: 21, N: 200},
		api.Ins{Op: 153, N: 4},
		api.Ins{Op: 16, N: -2},
		api.Ins{Op: 17, N: -300},
		api.Ins{Op: 132, N: 254, M: -128},
		api.Ins{Op: 188, N: 10},
		api.Ins{Op: 199, N: 6},
		api.Ins{Op: 167, N: 1},
		api.Ins{Op: 177},
	))
	wanted := []byte{21, 200, 153, 0, 8, 16, 254, 17, 254, 212, 132, 254, 128, 188, 10, 199, 0, 0, 167, 255, 240, 177}
	if !same(f.Methods[0].Code, wanted) {
		t.Errorf("% d", f.Methods[0].Code)
	}
}

// TestEachPartOfAUnit has each number, each text and each operation of a unit be many others, alone.
func TestEachPartOfAUnit(t *testing.T) {
	got := map[bool]int{}
	u := eachUnit()
	for _, v := range leaves(reflect.ValueOf(&u)) {
		turn(v, func() { got[judged(t, u)]++ })
	}
	if !same(u, eachUnit()) || got[true] < 1000 || got[false] < 1000 {
		t.Errorf("but %v", got)
	}
}

// TestEachOperation asks each operation's instruction as it may be, and with each word of many others, one too many of each kind among them.
func TestEachOperation(t *testing.T) {
	for op := range 256 {
		x := insOf(byte(op))
		if wanted := ops.Form(byte(op)) != 0; judged(t, unitOf(api.Ins{}, x, api.Ins{})) != wanted {
			t.Fatalf("operation %d", op)
		}
		u := unitOf(api.Ins{Op: 17, N: 1}, x, api.Ins{})
		v := reflect.ValueOf(&u.Methods[0].Code[1]).Elem()
		for i := 1; i < v.NumField(); i++ {
			turn(v.Field(i), func() { judged(t, u) })
		}
	}
}

// TestOneWordTooMany asks so one by one, since the model may be wrong as the program is.
func TestOneWordTooMany(t *testing.T) {
	for op := range 256 {
		if ops.Form(byte(op)) == 0 {
			continue
		}
		for i, x := range []api.Ins{{N: 1}, {M: 1}, {Class: "A"}, {Name: "n"}, {Desc: "I"}, {Text: "t"}} {
			y := insOf(byte(op))
			has := map[int]bool{}
			switch ops.Form(byte(op)) {
			case api.FormLocal, api.FormByte, api.FormShort, api.FormBranch, api.FormArray:
				has = map[int]bool{0: true}
			case api.FormInc:
				has = map[int]bool{0: true, 1: true}
			case api.FormConst, api.FormWide:
				has = map[int]bool{0: y.Name == "" && y.Class == "", 2: y.Class != "", 3: y.Name != "", 4: y.Desc != ""}
			}
			if has[i] {
				continue
			}
			y.N, y.M, y.Class, y.Name, y.Desc, y.Text = y.N+x.N, y.M+x.M, y.Class+x.Class, y.Name+x.Name, y.Desc+x.Desc, y.Text+x.Text
			lowersNone(t, unitOf(api.Ins{}, y, api.Ins{}))
		}
	}
	lowers(t, unitOf(api.Ins{Op: 18, Desc: "S", Text: "t"}))
	lowersNone(t, unitOf(api.Ins{Op: 18, N: 1, Desc: "S", Text: "t"}))
	lowersNone(t, unitOf(api.Ins{Op: 18, Desc: "S", Text: "t", Class: "A"}))
}

func TestWidths(t *testing.T) {
	for _, x := range []struct {
		x           api.Ins
		least, most int64
	}{
		{api.Ins{Op: 21}, 0, 255},
		{api.Ins{Op: 58}, 0, 255},
		{api.Ins{Op: 132}, 0, 255},
		{api.Ins{Op: 16}, -128, 127},
		{api.Ins{Op: 17}, -32768, 32767},
		{api.Ins{Op: 18, Desc: "I"}, math.MinInt32, math.MaxInt32},
		{api.Ins{Op: 167}, 0, 0},
		{api.Ins{Op: 0}, 0, 0},
	} {
		for _, n := range []int64{x.least, x.most} {
			x.x.N = n
			lowers(t, unitOf(x.x))
		}
		for _, n := range []int64{x.least - 1, x.most + 1, x.least - 1<<32, x.most + 1<<32, math.MinInt64, math.MaxInt64} {
			x.x.N = n
			lowersNone(t, unitOf(x.x))
		}
	}
	for _, n := range []int64{math.MinInt64, math.MaxInt64, math.MinInt32 - 1, 1 << 32, -1, 0} {
		lowers(t, unitOf(api.Ins{Op: 20, N: n, Desc: "J"}))
	}
	for _, m := range []int{-128, -1, 0, 127} {
		lowers(t, unitOf(api.Ins{Op: 132, N: 3, M: m}))
	}
	for _, m := range []int{-129, 128, 256, 1 << 32, math.MinInt, math.MaxInt} {
		lowersNone(t, unitOf(api.Ins{Op: 132, N: 3, M: m}))
	}
	for n := int64(-2); n < 20; n++ {
		if judged(t, unitOf(api.Ins{Op: 188, N: n})) != (n == 8 || n == 10) {
			t.Errorf("OpNewarray of %d", n)
		}
	}
}

func TestPushedConstants(t *testing.T) {
	for _, d := range []string{"I", "J", "S", "", "B", "T", "i", "s", "II", "La;", "[B"} {
		for _, op := range []byte{18, 20} {
			if judged(t, unitOf(api.Ins{Op: op, Desc: d})) != (op == 18 && (d == "I" || d == "S") || op == 20 && d == "J") {
				t.Errorf("operation %d of %q", op, d)
			}
		}
	}
	for _, s := range texts() {
		if judged(t, unitOf(api.Ins{Op: 18, Desc: "S", Text: s})) != modelText(s) {
			t.Errorf("text %q", s)
		}
	}
	for _, s := range []string{"", "\xc0\x80", "\xed\xa0\x80", strings.Repeat("t", 65535)} {
		lowers(t, unitOf(api.Ins{Op: 18, Desc: "S", Text: s}))
	}
	for _, s := range []string{"\x00", "\xff", "\xf0\x9f\x98\x80", strings.Repeat("t", 65536), strings.Repeat("t", 1<<20)} {
		lowersNone(t, unitOf(api.Ins{Op: 18, Desc: "S", Text: s}))
	}
	// An int and a long of one number, and a text and a string of it, are constants of their own.
	lowers(t, unitOf(api.Ins{Op: 18, N: 5, Desc: "I"}, api.Ins{Op: 20, N: 5, Desc: "J"}, api.Ins{Op: 18, Desc: "S", Text: "A"}, api.Ins{Op: 187, Class: "A"}))
}

func TestBranches(t *testing.T) {
	row := func(op byte, at int, to int64) api.Unit {
		l := []api.Ins{{Op: 17}, {}, {Op: 132}, {Op: 21}, {Op: 177}}
		l[at] = api.Ins{Op: op, N: to}
		return unitOf(l...)
	}
	for op := range 256 {
		if ops.Form(byte(op)) != api.FormBranch {
			continue
		}
		for at := range 5 {
			for to := range int64(5) {
				lowers(t, row(byte(op), at, to))
			}
			for _, to := range []int64{-1, 5, 6, 8, 10, 11, 255, 256, 65536, 1 << 32, 1<<32 + 1, math.MinInt64, math.MaxInt64} {
				lowersNone(t, row(byte(op), at, to))
			}
		}
	}
}

// TestFarBranches asks branches from the one end of the longest code to the other.
func TestFarBranches(t *testing.T) {
	l := make([]api.Ins, 4092)
	l[0] = api.Ins{Op: 167, N: 4091}
	l[4091] = api.Ins{Op: 167, N: 0}
	f := lowers(t, unitOf(l...))
	if code := f.Methods[0].Code; len(code) != 4096 || code[1] != 15 || code[2] != 253 || code[4094] != 240 || code[4095] != 3 {
		t.Errorf("%d bytes, % d .. % d", len(code), code[:3], code[4093:])
	}
	l[0].N = 4092
	lowersNone(t, unitOf(l...))
}

func TestLoweredPlaces(t *testing.T) {
	n := len(eachUnit().Methods[0].Code)
	for at := -3; at < 60; at++ {
		ask := func(wanted bool, change func(*api.Method)) {
			t.Helper()
			u := eachUnit()
			change(&u.Methods[0])
			if wanted {
				lowers(t, u)
			} else {
				lowersNone(t, u)
			}
		}
		isIn := 0 <= at && at < n
		ask(isIn, func(m *api.Method) { m.Traps[0].From = at })
		ask(isIn || at == n, func(m *api.Method) { m.Traps[0].To = at })
		ask(isIn, func(m *api.Method) { m.Traps[0].At = at })
		ask(isIn, func(m *api.Method) { m.Maps[0].At = at })
	}
	// The other method has two instructions.
	for _, x := range []api.Trap{{To: 3}, {To: 19}, {From: 2}, {At: 2}, {At: 18}} {
		u := eachUnit()
		u.Methods[1].Traps = []api.Trap{x}
		lowersNone(t, u)
	}
	for _, at := range []int{2, 18} {
		u := eachUnit()
		u.Methods[1].Maps = []api.Map{{At: at}}
		lowersNone(t, u)
	}
}

func TestLoweredMapTypes(t *testing.T) {
	for _, s := range texts() {
		for i := range 2 {
			u := eachUnit()
			u.Methods[0].Maps[i].Locals = []string{s}
			if judged(t, u) != modelMapType(s) {
				t.Errorf("%q", s)
			}
			u = eachUnit()
			u.Methods[0].Maps[i].Stack = []string{"I", s}
			if judged(t, u) != modelMapType(s) {
				t.Errorf("%q", s)
			}
		}
	}
	for s, wanted := range map[string]api.Slot{"T": {Tag: 0}, "I": {Tag: 1}, "J": {Tag: 4}, "N": {Tag: 5}} {
		u := unitOf(api.Ins{})
		u.Methods[0].Maps = []api.Map{{Locals: []string{s}, Stack: []string{s, s}}}
		m := lowers(t, u).Methods[0].Maps[0]
		if !same(m, api.FileMap{Locals: []api.Slot{wanted}, Stack: []api.Slot{wanted, wanted}}) {
			t.Errorf("%q: %+v", s, m)
		}
	}
	for _, s := range []string{"", "B", "V", "S", "-", "a/B", "A", "L;", "L[I;", "La;b;", "[J", "[", "II"} {
		u := unitOf(api.Ins{})
		u.Methods[0].Maps = []api.Map{{Stack: []string{s}}}
		lowersNone(t, u)
	}
}

// TestClassesOfUnits asks, written out, where a class may stand, and where an array may.
func TestClassesOfUnits(t *testing.T) {
	for s, is := range map[string]struct{ class, array bool }{
		"A":                     {true, false},
		"a/B":                   {true, false},
		"I":                     {true, false},
		strings.Repeat("a", 64): {true, false},
		strings.Repeat("a", 65): {},
		"":                      {},
		"La/B;":                 {},
		"a/":                    {},
		"[I":                    {false, true},
		"[[La/B;":               {false, true},
		"[[[[[[[[B":             {false, true},
		"[[[[[[[[[B":            {},
		"[J":                    {},
		"[a":                    {},
	} {
		for op := range 256 {
			x := insOf(byte(op))
			if x.Class == "" {
				continue
			}
			x.Class = s
			wanted := is.class
			if op == 189 || op == 192 || op == 193 {
				wanted = is.class || is.array
			}
			if judged(t, unitOf(x)) != wanted {
				t.Errorf("operation %d of %q", op, s)
			}
		}
		u := api.Unit{Name: s}
		if judged(t, u) != is.class {
			t.Errorf("a unit %q", s)
		}
		u = api.Unit{Name: "A", Super: s}
		if judged(t, u) != (is.class || s == "") {
			t.Errorf("a superclass %q", s)
		}
		u = unitOf(api.Ins{})
		u.Methods[0].Traps = []api.Trap{{Class: s}}
		if judged(t, u) != (is.class || s == "") {
			t.Errorf("a trap of %q", s)
		}
	}
}

func TestSuperclassNoneAndTrapOfAny(t *testing.T) {
	u := unitOf(api.Ins{})
	u.Methods[0].Traps = []api.Trap{{}}
	f := lowers(t, u)
	if f.Super != 0 || f.Methods[0].Traps[0].Class != 0 {
		t.Errorf("%+v", f)
	}
}

func TestDescriptionsOfUnits(t *testing.T) {
	for _, s := range texts() {
		for op, wanted := range map[byte]bool{178: modelType(s), 179: modelType(s), 180: modelType(s), 181: modelType(s), 182: modelMethod(s), 184: modelMethod(s)} {
			if judged(t, unitOf(api.Ins{Op: op, Class: "A", Name: "n", Desc: s})) != wanted {
				t.Errorf("operation %d of %q", op, s)
			}
		}
	}
	for op, s := range map[byte]string{178: "()V", 179: "(I)I", 180: "V", 181: "", 182: "I", 184: "[B"} {
		lowersNone(t, unitOf(api.Ins{Op: op, Class: "A", Name: "n", Desc: s}))
	}
}
