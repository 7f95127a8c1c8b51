package asm_test

import (
	"reflect"
	"strings"
	"testing"

	"carpetbag/api"
	"carpetbag/asm"
)

// P15.1: what Lift answers.

func TestExample(t *testing.T) {
	lifts(t, api.File{Pool: []api.Const{{}, {Tag: 1, S: "a/B"}, {Tag: 7, A: 1}}, This: 2}, api.Unit{Name: "a/B"})
}

func TestLiftWrittenOut(t *testing.T) {
	lifts(t, eachFile(), eachUnit())
}

func TestLiftOfNothing(t *testing.T) {
	liftsNone(t, api.File{}, api.ErrForm)
}

// TestEachPartOfAClass has each number, each text and each byte of a class be many others, alone.
func TestEachPartOfAClass(t *testing.T) {
	got := map[api.Errno]int{}
	f := eachFile()
	for _, v := range leaves(reflect.ValueOf(&f)) {
		turn(v, func() { got[read(t, f)]++ })
	}
	lifts(t, f, eachUnit())
	for _, e := range []api.Errno{api.OK, api.ErrForm, api.ErrShort, api.ErrRange} {
		if got[e] < 100 {
			t.Errorf("but %d of the classes tell %d", got[e], e)
		}
	}
}

// TestOtherConstants has each part that tells a place tell each other one.
func TestOtherConstants(t *testing.T) {
	f := eachFile()
	m := &f.Methods[0]
	for at := range len(f.Pool) + 2 {
		for _, p := range []*int{
			&f.This, &f.Super, &f.Fields[0].Name, &f.Fields[0].Desc, &m.Name, &m.Desc,
			&m.Traps[0].Class, &m.Maps[0].Locals[3].A, &m.Maps[0].Stack[1].A,
		} {
			was := *p
			*p = at
			read(t, f)
			*p = was
		}
		// The constants' own places stay right ones.
		for _, p := range []int{9, 11, 14, 17, 20, 23, 26, 29, 32, 35, 38} {
			was := m.Code[p]
			m.Code[p] = byte(at)
			read(t, f)
			m.Code[p] = was
		}
	}
}

// TestConstantsWrittenOut asks one by one which constants each operation takes.
func TestConstantsWrittenOut(t *testing.T) {
	f := eachFile()
	f.Pool = append(f.Pool, api.Const{Tag: 9, A: 2, B: 18}, api.Const{Tag: 10, A: 2, B: 16}, api.Const{Tag: 9, A: 21, B: 16}, api.Const{Tag: 10, A: 23, B: 18})
	taken := map[byte][]int{
		18:  {11, 13},
		20:  {14},
		178: {17}, 179: {17}, 180: {17}, 181: {17},
		182: {19}, 184: {19},
		187: {2, 4},
		189: {2, 4, 21, 23}, 192: {2, 4, 21, 23}, 193: {2, 4, 21, 23},
	}
	for op, places := range taken {
		for at := range len(f.Pool) + 5 {
			f.Methods = []api.FileMethod{{Name: 7, Desc: 8, Code: []byte{op, 0, byte(at)}}}
			if op == 18 {
				f.Methods[0].Code = []byte{op, byte(at)}
			}
			wanted := api.ErrForm
			for _, p := range places {
				if p == at {
					wanted = api.OK
				}
			}
			if e := read(t, f); e != wanted {
				t.Errorf("operation %d with the constant %d: %d", op, at, e)
			}
		}
	}
}

// TestPlacesOfTwoBytes asks whether both bytes of a place are told.
func TestPlacesOfTwoBytes(t *testing.T) {
	f := eachFile()
	for len(f.Pool) < 600 {
		f.Pool = append(f.Pool, api.Const{Tag: 7, A: 3})
	}
	f.Pool[512+2] = api.Const{Tag: 7, A: 5}
	f.Methods = []api.FileMethod{{Name: 7, Desc: 8, Code: []byte{187, 2, 2}}}
	u := eachUnit()
	u.Methods = []api.Method{{Name: "run", Desc: "(IJ)V", Code: []api.Ins{{Op: 187, Class: "count"}}}}
	lifts(t, f, u)
	f.Methods[0].Code = []byte{187, 255, 255}
	liftsNone(t, f, api.ErrForm)
}

// classWith is a class that tells a name wherever a class may be told; all its places but the one are right ones.
func classWith(s, place string) api.File {
	f := eachFile()
	f.Pool = append(f.Pool, api.Const{Tag: 1, S: s}, api.Const{Tag: 7, A: 24}, api.Const{Tag: 9, A: 25, B: 16}, api.Const{Tag: 10, A: 25, B: 18})
	m := &f.Methods[0]
	switch place {
	case "This":
		f.This = 25
	case "Super":
		f.Super = 25
	case "a trap":
		m.Traps[0].Class = 25
	case "locals":
		m.Maps[0].Locals[3].A = 25
	case "stack":
		m.Maps[0].Stack[1].A = 25
	case "a field's":
		m.Code[17] = 26
	case "a method's":
		m.Code[23] = 27
	case "OpNew":
		m.Code[29] = 25
	case "OpAnewarray":
		m.Code[32] = 25
	case "OpCheckcast":
		m.Code[35] = 25
	case "OpInstanceof":
		m.Code[38] = 25
	}
	return f
}

func TestClassesAndArrays(t *testing.T) {
	for _, s := range texts() {
		for _, place := range []string{"This", "Super", "a trap", "a field's", "a method's", "OpNew"} {
			if e := read(t, classWith(s, place)); (e == api.OK) != modelClass(s) {
				t.Errorf("%s of %q: %d", place, s, e)
			}
		}
		for _, place := range []string{"locals", "stack", "OpAnewarray", "OpCheckcast", "OpInstanceof"} {
			if e := read(t, classWith(s, place)); (e == api.OK) != (modelClass(s) || modelArray(s)) {
				t.Errorf("%s of %q: %d", place, s, e)
			}
		}
	}
	// Written out, since the model may be wrong as the program is.
	for place, s := range map[string]string{"This": "", "Super": "", "a trap": "", "OpNew": "[I", "a field's": "[I", "a method's": "[La/B;", "OpCheckcast": "", "locals": "", "stack": "La/B;", "OpAnewarray": "I/", "OpInstanceof": "[J"} {
		liftsNone(t, classWith(s, place), api.ErrForm)
	}
}

func TestLiftedMapTypes(t *testing.T) {
	for s, wanted := range map[string]string{"a/B": "La/B;", "I": "LI;", "T": "LT;", "[I": "[I", "[[La/B;": "[[La/B;", "L": "LL;"} {
		u := eachUnit()
		u.Methods[0].Maps[0].Locals[3] = wanted
		lifts(t, classWith(s, "locals"), u)
	}
	for tag, wanted := range map[int]string{0: "T", 1: "I", 4: "J", 5: "N"} {
		f, u := eachFile(), eachUnit()
		f.Methods[0].Maps[0].Stack[0].Tag = tag
		u.Methods[0].Maps[0].Stack[0] = wanted
		lifts(t, f, u)
	}
}

// TestLiftedPlaces asks each place of a code, of instructions and between them, of the end and beyond.
func TestLiftedPlaces(t *testing.T) {
	starts := []int{0, 2, 5, 8, 10, 12, 15, 18, 21, 24, 27, 30, 33, 36, 39, 41, 43, 46, 49}
	row := map[int]int{}
	for i, at := range starts {
		row[at] = i
	}
	for at := range 70 {
		i, ok := row[at]
		f, u := eachFile(), eachUnit()
		ask := func(ok bool) {
			t.Helper()
			if ok {
				lifts(t, f, u)
			} else {
				liftsNone(t, f, api.ErrRange)
			}
			f, u = eachFile(), eachUnit()
		}
		f.Methods[0].Traps[0].From, u.Methods[0].Traps[0].From = at, i
		ask(ok)
		f.Methods[0].Traps[0].At, u.Methods[0].Traps[0].At = at, i
		ask(ok)
		f.Methods[0].Maps[0].At, u.Methods[0].Maps[0].At = at, i
		ask(ok)
		f.Methods[0].Traps[0].To, u.Methods[0].Traps[0].To = at, i
		if at == 50 {
			u.Methods[0].Traps[0].To = 19
		}
		ask(ok || at == 50)
	}
	for _, at := range []int{255, 256, 50 + 256, 65535} {
		f := eachFile()
		f.Methods[0].Traps[1].To = at
		liftsNone(t, f, api.ErrRange)
	}
}

// TestPlacesAreOfTheirMethod asks whether a place is held against the instructions of its own method.
func TestPlacesAreOfTheirMethod(t *testing.T) {
	f := eachFile()
	f.Methods[1].Traps = []api.FileTrap{{From: 0, To: 2, At: 1}}
	u := eachUnit()
	u.Methods[1].Traps = []api.Trap{{From: 0, To: 2, At: 1}}
	lifts(t, f, u)
	for _, wrong := range []api.FileTrap{{From: 5, To: 2, At: 1}, {From: 0, To: 5, At: 1}, {From: 0, To: 50, At: 1}, {From: 0, To: 2, At: 49}, {From: 2, To: 2}, {To: 2, At: 2}} {
		f.Methods[1].Traps[0] = wrong
		liftsNone(t, f, api.ErrRange)
	}
	f.Methods[1].Traps = nil
	for _, at := range []int{2, 5, 49} {
		f.Methods[1].Maps = []api.FileMap{{At: at}}
		liftsNone(t, f, api.ErrRange)
	}
}

// TestLiftTellsErrorsOfCodes asks layer 13's errors.
func TestLiftTellsErrorsOfCodes(t *testing.T) {
	for _, x := range []struct {
		code  []byte
		error api.Errno
	}{
		{[]byte{240}, api.ErrForm},
		{[]byte{0, 255}, api.ErrForm},
		{[]byte{188, 9}, api.ErrForm},
		{[]byte{17, 1}, api.ErrShort},
		{[]byte{0, 187}, api.ErrShort},
		{[]byte{167, 0, 1}, api.ErrRange},
		{[]byte{167, 0, 3}, api.ErrRange},
		{[]byte{167, 255, 255}, api.ErrRange},
		{[]byte{17, 0, 0, 153, 255, 254}, api.ErrRange},
		{nil, api.ErrForm},
		{make([]byte, 4097), api.ErrForm},
		{make([]byte, 4096), api.OK},
	} {
		f := eachFile()
		f.Methods[1].Code = x.code
		if e := read(t, f); e != x.error {
			t.Errorf("% d: %d, not %d", x.code[:min(len(x.code), 9)], e, x.error)
		}
	}
}

// TestNamesNobodyAsksFor asks whether constants that nothing has may be what they want.
func TestNamesNobodyAsksFor(t *testing.T) {
	f := eachFile()
	n := len(f.Pool)
	f.Pool = append(f.Pool, api.Const{Tag: 1, S: "<none>"}, api.Const{Tag: 7, A: n}, api.Const{Tag: 12, A: n, B: n}, api.Const{Tag: 9, A: n + 1, B: n + 2}, api.Const{Tag: 10, A: n + 1, B: n + 2}, api.Const{Tag: 8, A: n})
	lifts(t, f, eachUnit())
}

func TestLiftOfAllThatMayBe(t *testing.T) {
	f := eachFile()
	slots := make([]api.Slot, 64)
	for i := range slots {
		slots[i] = api.Slot{Tag: 7, A: 21}
	}
	m := api.FileMethod{Name: 7, Desc: 8, Code: make([]byte, 4096)}
	for i := range 255 {
		m.Traps = append(m.Traps, api.FileTrap{From: i, To: 4096 - i, At: 4095, Class: 2})
		m.Maps = append(m.Maps, api.FileMap{At: 4095 - i, Locals: slots, Stack: slots})
	}
	f.Methods = nil
	for range 16 {
		f.Methods = append(f.Methods, m)
	}
	f.Pool[20].S = "[[[[[[[[L" + strings.Repeat("b", 64) + ";"
	u, e := asm.Lift(f)
	if e != api.OK || len(u.Methods) != 16 || len(u.Methods[15].Code) != 4096 || u.Methods[15].Traps[254] != (api.Trap{From: 254, To: 4096 - 254, At: 4095, Class: "a/B"}) || u.Methods[15].Maps[254].Stack[63] != f.Pool[20].S {
		t.Errorf("Lift: %d", e)
	}
	// What is wrong everywhere, and long.
	f.Pool[20].S = strings.Repeat("[", 65535)
	if u, e := asm.Lift(f); e != api.ErrForm || !same(u, api.Unit{}) {
		t.Errorf("Lift: %d", e)
	}
}
