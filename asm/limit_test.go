package asm_test

import (
	"slices"
	"strconv"
	"testing"

	"carpetbag/api"
	"carpetbag/asm"
)

// P15.1: how much a unit may have.

func TestCounts(t *testing.T) {
	for _, n := range []int{0, 1, 63, 64, 65, 66, 1000} {
		wanted := n <= 64
		for what, change := range map[string]func(u *api.Unit, m *api.Method){
			"fields":  func(u *api.Unit, m *api.Method) { u.Fields = slices.Repeat(u.Fields[:1], n) },
			"methods": func(u *api.Unit, m *api.Method) { u.Methods = slices.Repeat(u.Methods[:1], n) },
			"Stack":   func(u *api.Unit, m *api.Method) { m.Stack = n },
			"Locals":  func(u *api.Unit, m *api.Method) { m.Locals = n },
			"locals":  func(u *api.Unit, m *api.Method) { m.Maps[0].Locals = slices.Repeat([]string{"J"}, n) },
			"stack":   func(u *api.Unit, m *api.Method) { m.Maps[1].Stack = slices.Repeat([]string{"J"}, n) },
		} {
			u := eachUnit()
			change(&u, &u.Methods[0])
			if judged(t, u) != wanted {
				t.Errorf("%d %s", n, what)
			}
		}
	}
	for _, n := range []int{0, 1, 254, 255, 256, 5000} {
		u := eachUnit()
		u.Methods[0].Traps = slices.Repeat(u.Methods[0].Traps[:1], n)
		if judged(t, u) != (n <= 255) {
			t.Errorf("%d traps", n)
		}
		u = eachUnit()
		u.Methods[0].Maps = slices.Repeat(u.Methods[0].Maps[:1], n)
		if judged(t, u) != (n <= 255) {
			t.Errorf("%d maps", n)
		}
	}
	for _, n := range []int{-1, -64, -1 << 40} {
		u := eachUnit()
		u.Methods[0].Stack = n
		lowersNone(t, u)
		u = eachUnit()
		u.Methods[0].Locals = n
		lowersNone(t, u)
	}
}

func TestLongCodes(t *testing.T) {
	lowersNone(t, unitOf())
	for _, n := range []int{1, 4095, 4096} {
		lowers(t, unitOf(make([]api.Ins, n)...))
	}
	for _, n := range []int{4097, 4098, 8192, 65536, 65537} {
		lowersNone(t, unitOf(make([]api.Ins, n)...))
	}
	// The length is that of the bytes: of an instruction of each form so many that all but fit, and as many as are still free.
	for op, size := range map[byte]int{0: 1, 21: 2, 16: 2, 17: 3, 18: 2, 20: 3, 153: 3, 132: 3, 188: 2, 187: 3, 178: 3, 182: 3} {
		x := insOf(op)
		for _, free := range []int{0, 1, 2, 3, 4} {
			l := slices.Repeat([]api.Ins{x}, (4096-free)/size)
			l = append(l, make([]api.Ins, 4096-size*len(l))...)
			lowers(t, unitOf(l...))
			lowersNone(t, unitOf(append(l, api.Ins{})...))
			l = l[:4096/size-1]
			lowers(t, unitOf(append(l, x)...))
			lowersNone(t, unitOf(append(l, x, x)...))
		}
	}
}

// pushed are n ints, from the first one on.
func pushed(first, n int) []api.Ins {
	var l []api.Ins
	for i := range n {
		l = append(l, api.Ins{Op: opLdc, N: int64(first + i), Desc: "I"})
	}
	return l
}

// told are n strings.
func told(n int) []api.Ins {
	var l []api.Ins
	for i := range n {
		l = append(l, api.Ins{Op: opLdc, Desc: "S", Text: "text " + strconv.Itoa(i)})
	}
	return l
}

// made are n instructions with classes of their own, each of which has two places of a pool.
func made(n int) []api.Ins {
	var l []api.Ins
	for i := range n {
		l = append(l, api.Ins{Op: opNew, Class: "C" + strconv.Itoa(i)})
	}
	return l
}

// TestManyLiterals asks how many constants OpLdc can tell, wherever they stand in a unit.
func TestManyLiterals(t *testing.T) {
	for n := range 5 {
		ints := 100
		strings := 153 + n // 253 to 257 in all
		wanted := ints+strings <= 255
		for _, l := range [][]api.Ins{
			slices.Concat(pushed(0, ints), told(strings)),
			slices.Concat(told(strings), pushed(0, ints)),
			slices.Concat(made(40), told(strings), made(60), pushed(0, ints), told(strings), pushed(0, ints)),
			pushed(0, ints+strings),
			told(ints + strings),
		} {
			if judged(t, unitOf(l...)) != wanted {
				t.Errorf("%d literals", ints+strings)
			}
			u := unitOf(l[:150]...)
			u.Methods = append(u.Methods, unitOf(made(20)...).Methods...)
			u.Methods = append(u.Methods, unitOf(l[150:]...).Methods...)
			if judged(t, u) != wanted {
				t.Errorf("%d literals of two methods", ints+strings)
			}
		}
	}
	for _, n := range []int{300, 1023, 1024, 1025, 2000} {
		lowersNone(t, unitOf(pushed(0, n)...))
	}
}

// full is a unit whose least pool has so many places, with classes, and as many ints as are still free.
func full(t *testing.T, places int, l ...api.Ins) api.Unit {
	t.Helper()
	u := unitOf(l...)
	n, _ := modelCount(u)
	l = append(l, made((places-n)/2)...)
	n, _ = modelCount(unitOf(l...))
	l = append(l, pushed(5000, places-n)...)
	u = unitOf(l...)
	if n, _ = modelCount(u); n != places {
		t.Fatalf("%d places, not %d", n, places)
	}
	return u
}

// TestFullPools asks how many places a pool may have, of each kind of constant.
func TestFullPools(t *testing.T) {
	lowers(t, full(t, 1024))
	lowersNone(t, full(t, 1025))
	for what, l := range map[string][]api.Ins{
		"an int":               {{Op: 18, N: -9, Desc: "I"}},
		"a string":             {{Op: 18, Desc: "S", Text: "new"}},
		"a string of a text":   {{Op: 18, Desc: "S", Text: "Code"}},
		"a long":               {{Op: 20, N: -9, Desc: "J"}},
		"a class":              {{Op: 187, Class: "New"}},
		"a class of a text":    {{Op: 187, Class: "Code"}},
		"an array":             {{Op: 189, Class: "[I"}},
		"a field":              {{Op: 178, Class: "New", Name: "n", Desc: "I"}},
		"a field of texts":     {{Op: 178, Class: "A", Name: "m", Desc: "J"}},
		"a method":             {{Op: 182, Class: "New", Name: "n", Desc: "()I"}},
		"its own method":       {{Op: 182, Class: "A", Name: "m", Desc: "()V"}},
		"two longs":            {{Op: 20, N: -9, Desc: "J"}, {Op: 20, N: -8, Desc: "J"}},
		"fields of one name":   {{Op: 178, Class: "New", Name: "n", Desc: "I"}, {Op: 178, Class: "A", Name: "n", Desc: "I"}},
		"fields of one class":  {{Op: 178, Class: "New", Name: "n", Desc: "I"}, {Op: 178, Class: "New", Name: "n", Desc: "J"}},
		"a method and a class": {{Op: 184, Class: "New", Name: "New", Desc: "()V"}, {Op: 187, Class: "New"}},
	} {
		base := 1 + 5 // place 0, the texts "A", "m", "()V" and "Code", and the class
		n, _ := modelCount(unitOf(l...))
		n -= base
		for _, d := range []int{-2, -1, 0, 1, 2} {
			// What is asked about stands behind what fills the pool, then ahead of it.
			u := full(t, 1024-n+d)
			u.Methods[0].Code = append(u.Methods[0].Code, l...)
			if judged(t, u) != (d <= 0) {
				t.Errorf("%s: %d beyond", what, d)
			}
			if judged(t, full(t, 1024+d, l...)) != (d <= 0) {
				t.Errorf("%s: %d beyond", what, d)
			}
			// What stands there already needs no more room.
			u = full(t, 1024+d, l...)
			u.Methods[0].Code = append(u.Methods[0].Code, l...)
			if judged(t, u) != (d <= 0) {
				t.Errorf("%s twice: %d beyond", what, d)
			}
		}
	}
}

// TestFullPoolsOfOtherParts asks so of what stands in a pool for other parts than instructions.
func TestFullPoolsOfOtherParts(t *testing.T) {
	for what, x := range map[string]struct {
		places int
		change func(*api.Unit)
	}{
		"a superclass":         {2, func(u *api.Unit) { u.Super = "New" }},
		"a known superclass":   {0, func(u *api.Unit) { u.Super = "A" }},
		"no superclass":        {0, func(u *api.Unit) { u.Super = "" }},
		"a field":              {2, func(u *api.Unit) { u.Fields = []api.Field{{Name: "new", Desc: "I"}} }},
		"a field's type":       {1, func(u *api.Unit) { u.Fields = []api.Field{{Name: "m", Desc: "I"}} }},
		"two fields":           {3, func(u *api.Unit) { u.Fields = []api.Field{{Name: "x", Desc: "I"}, {Name: "y", Desc: "I"}} }},
		"a trap":               {2, func(u *api.Unit) { u.Methods[0].Traps = []api.Trap{{Class: "New"}, {}} }},
		"a known trap":         {0, func(u *api.Unit) { u.Methods[0].Traps = []api.Trap{{Class: "A"}} }},
		"a map":                {1, func(u *api.Unit) { u.Methods[0].Maps = []api.Map{{Stack: []string{"I", "J", "T", "N"}}} }},
		"a map's class":        {3, func(u *api.Unit) { u.Methods[0].Maps = []api.Map{{Stack: []string{"LNew;"}}} }},
		"a map's known class":  {1, func(u *api.Unit) { u.Methods[0].Maps = []api.Map{{Locals: []string{"LA;"}}} }},
		"a map's array":        {3, func(u *api.Unit) { u.Methods[0].Maps = []api.Map{{Locals: []string{"[I"}}} }},
		"a class and an array": {5, func(u *api.Unit) { u.Methods[0].Maps = []api.Map{{Locals: []string{"LNew;", "[LNew;"}}} }},
		"a method like it":     {0, func(u *api.Unit) { u.Methods = append(u.Methods, u.Methods[0]) }},
		"a method's name":      {1, func(u *api.Unit) { u.Methods = append(u.Methods, u.Methods[0]); u.Methods[1].Name = "new" }},
		"a description":        {1, func(u *api.Unit) { u.Methods = append(u.Methods, u.Methods[0]); u.Methods[1].Desc = "()I" }},
		"another name":         {1, func(u *api.Unit) { u.Methods[0].Name = "A"; u.Name = "B" }},
		"one text for all": {0, func(u *api.Unit) {
			u.Fields = []api.Field{{Name: "Code", Desc: "I"}}
			u.Name = "I"
			u.Methods[0].Name = "I"
		}},
		"what is named as maps": {1, func(u *api.Unit) {
			u.Methods[0].Maps = []api.Map{{}}
			u.Fields = []api.Field{{Name: "StackMap", Desc: "I"}}
		}},
	} {
		for d := -4; d <= 5; d++ {
			u := full(t, 1020+d)
			x.change(&u)
			if n, _ := modelCount(u); judged(t, u) != (n <= 1024) {
				t.Errorf("%s: %d places", what, n)
			}
		}
		// So many places the words above tell; the model may be wrong.
		if what != "another name" && what != "one text for all" && what != "what is named as maps" {
			u := full(t, 1024-x.places)
			x.change(&u)
			lowers(t, u)
			u = full(t, 1025-x.places)
			x.change(&u)
			lowersNone(t, u)
		}
	}
}

// TestUnitsWithMuchTooMuch asks whether what no class could have is refused, whatever else is wrong.
func TestUnitsWithMuchTooMuch(t *testing.T) {
	u := eachUnit()
	u.Methods = slices.Repeat(u.Methods, 5000)
	lowersNone(t, u)
	u = eachUnit()
	u.Methods[1].Code = slices.Repeat(u.Methods[0].Code, 5000)
	lowersNone(t, u)
	u = eachUnit()
	for i := range 100000 {
		u.Fields = append(u.Fields, api.Field{Name: "f" + strconv.Itoa(i), Desc: "I"})
	}
	lowersNone(t, u)
	u = eachUnit()
	for i := range 100000 {
		u.Methods[0].Traps = append(u.Methods[0].Traps, api.Trap{Class: "C" + strconv.Itoa(i)})
	}
	lowersNone(t, u)
	if f, e := asm.Lower(api.Unit{Name: string(make([]byte, 1<<24))}); e == api.OK || !same(f, api.File{}) {
		t.Error(e)
	}
}

// TestErrorsTellWhatIsWrong asks which error is told where one thing alone is wrong: a place, a length, or anything else. (The chapter leaves it free.)
func TestErrorsTellWhatIsWrong(t *testing.T) {
	for what, x := range map[string]struct {
		error  api.Errno
		change func(*api.Unit, *api.Method)
	}{
		"a branch to the end":    {api.ErrRange, func(u *api.Unit, m *api.Method) { m.Code[1].N = 19 }},
		"a trap's From":          {api.ErrRange, func(u *api.Unit, m *api.Method) { m.Traps[0].From = 19 }},
		"a trap's To":            {api.ErrRange, func(u *api.Unit, m *api.Method) { m.Traps[0].To = 20 }},
		"a trap's At":            {api.ErrRange, func(u *api.Unit, m *api.Method) { m.Traps[0].At = 19 }},
		"a map's At":             {api.ErrRange, func(u *api.Unit, m *api.Method) { m.Maps[0].At = 19 }},
		"a code":                 {api.ErrLong, func(u *api.Unit, m *api.Method) { m.Code = slices.Repeat(m.Code[2:17], 100) }},
		"a row":                  {api.ErrLong, func(u *api.Unit, m *api.Method) { m.Code = slices.Repeat(m.Code, 1000) }},
		"fields":                 {api.ErrLong, func(u *api.Unit, m *api.Method) { u.Fields = slices.Repeat(u.Fields, 33) }},
		"methods":                {api.ErrLong, func(u *api.Unit, m *api.Method) { u.Methods = slices.Repeat(u.Methods, 33) }},
		"a pool":                 {api.ErrLong, func(u *api.Unit, m *api.Method) { m.Code = append(m.Code, made(600)...) }},
		"a name":                 {api.ErrForm, func(u *api.Unit, m *api.Method) { u.Name = "" }},
		"an operation":           {api.ErrForm, func(u *api.Unit, m *api.Method) { m.Code[18].Op = 240 }},
		"a word too many":        {api.ErrForm, func(u *api.Unit, m *api.Method) { m.Code[18].Text = "t" }},
		"a number that is great": {api.ErrForm, func(u *api.Unit, m *api.Method) { m.Code[0].N = 256 }},
		"a map's type":           {api.ErrForm, func(u *api.Unit, m *api.Method) { m.Maps[0].Stack[0] = "S" }},
		"Stack":                  {api.ErrForm, func(u *api.Unit, m *api.Method) { m.Stack = 65 }},
	} {
		u := eachUnit()
		x.change(&u, &u.Methods[0])
		if _, e := asm.Lower(u); e != x.error {
			t.Errorf("%s: %d, not %d", what, e, x.error)
		}
	}
}
