package verify_test

import (
	"slices"
	"strings"
	"testing"

	"carpetbag/api"
	"carpetbag/desc"
	"carpetbag/flow"
	"carpetbag/hier"
	"carpetbag/types"
	"carpetbag/verify"
)

// What the chapter's words tell.

var plain = plainRows()

// plainRows are those of the chapter's table that ask nothing but types: what is taken, and what is pushed.
func plainRows() map[byte][2]string {
	all := map[byte][2]string{}
	for _, r := range []struct {
		ops           []byte
		takes, pushes string
	}{
		{[]byte{0, 167}, "", ""},
		{[]byte{1}, "", "N"},
		{[]byte{2, 3, 4, 5, 6, 7, 8, 16, 17}, "", "I"},
		{[]byte{9, 10, 20}, "", "J"},
		{[]byte{46}, "[I,I", "I"},
		{[]byte{51}, "[B,I", "I"},
		{[]byte{79}, "[I,I,I", ""},
		{[]byte{84}, "[B,I,I", ""},
		{[]byte{87}, "1", ""},
		{[]byte{96, 100, 104, 108, 112, 120, 122, 124, 126, 128, 130}, "I,I", "I"},
		{[]byte{97, 101, 105, 109, 113, 127, 129, 131}, "J,J", "J"},
		{[]byte{121, 123, 125}, "J,I", "J"},
		{[]byte{116, 145}, "I", "I"},
		{[]byte{117}, "J", "J"},
		{[]byte{133}, "I", "J"},
		{[]byte{136}, "J", "I"},
		{[]byte{148}, "J,J", "I"},
		{[]byte{153, 154, 155, 156, 157, 158}, "I", ""},
		{[]byte{159, 160, 161, 162, 163, 164}, "I,I", ""},
		{[]byte{165, 166}, "A,A", ""},
		{[]byte{191}, "LThrowable;", ""},
		{[]byte{198, 199}, "A", ""},
	} {
		for _, op := range r.ops {
			all[op] = [2]string{r.takes, r.pushes}
		}
	}
	return all
}

// isRef asks whether a type is a class's or an array's.
func isRef(t string) bool { return strings.HasPrefix(t, "L") || strings.HasPrefix(t, "[") }

// classType is a class's type.
func classType(class string) string {
	if strings.HasPrefix(class, "[") {
		return class
	}
	return "L" + class + ";"
}

// isOfWorld asks whether a text is a type of the world.
func isOfWorld(w *hier.World, t string) bool {
	item := strings.TrimLeft(t, "[")
	return desc.IsType(t) && (len(item) == 1 || w.Has(item[1:len(item)-1]))
}

// modelTakes is what an instruction takes, the top last.
func modelTakes(m api.Method, x api.Ins) []string {
	args, _, _ := desc.Method(x.Desc)
	_, ret, _ := desc.Method(m.Desc)
	this := "L" + x.Class + ";"
	switch x.Op {
	case 50:
		return list("A,I")
	case 83:
		return list("A,I,A")
	case 54, 172, 188, 189:
		return list("I")
	case 55, 173:
		return list("J")
	case 58, 190, 192, 193:
		return list("A")
	case 89:
		return list("1")
	case 95:
		return list("1,1")
	case 176:
		return []string{ret}
	case 179:
		return []string{x.Desc}
	case 180:
		return []string{this}
	case 181:
		return []string{this, x.Desc}
	case 182:
		return slices.Insert(args, 0, this)
	case 184:
		return args
	}
	return list(plain[x.Op][0])
}

// modelMay asks whether all else is there that an instruction asks for; told is what it took.
func modelMay(w *hier.World, m api.Method, x api.Ins, told []string) bool {
	_, ret, _ := desc.Method(m.Desc)
	field, isField := w.Field(x.Class, x.Name, x.Desc)
	method, isMethod := w.Method(x.Class, x.Name, x.Desc)
	t := classType(x.Class)
	switch x.Op {
	case 50, 83:
		return told[0] == "N" || strings.HasPrefix(told[0], "[") && isRef(told[0][1:])
	case 172:
		return ret == "I"
	case 173:
		return ret == "J"
	case 176:
		return isRef(ret)
	case 177:
		return ret == "V"
	case 178, 179:
		return isField && field.Static
	case 180, 181:
		return isField && !field.Static
	case 182:
		return isMethod && !method.Static
	case 184:
		return isMethod && method.Static
	case 187:
		return w.Has(x.Class)
	case 188:
		return x.N == 8 || x.N == 10
	case 189:
		return isOfWorld(w, t) && isOfWorld(w, "["+t)
	case 190:
		return told[0] == "N" || told[0][0] == '['
	case 192, 193:
		return isOfWorld(w, t)
	}
	return slices.Contains(operations(), x.Op)
}

// modelPushes is what an instruction pushes.
func modelPushes(x api.Ins, told []string) []string {
	_, ret, _ := desc.Method(x.Desc)
	switch x.Op {
	case 18:
		if x.Desc == "S" {
			return list("[B")
		}
		return list("I")
	case 21, 22, 25:
		return told
	case 50:
		if told[0] == "N" {
			return told[:1]
		}
		return []string{told[0][1:]}
	case 89:
		return []string{told[0], told[0]}
	case 95:
		return []string{told[1], told[0]}
	case 178, 180:
		return []string{x.Desc}
	case 182, 184:
		if ret == "V" {
			return nil
		}
		return []string{ret}
	case 187:
		return []string{"L" + x.Class + ";"}
	case 188:
		return []string{map[int64]string{8: "[B", 10: "[I"}[x.N]}
	case 189:
		return []string{"[" + classType(x.Class)}
	case 190, 193:
		return list("I")
	case 192:
		return []string{classType(x.Class)}
	}
	return list(plain[x.Op][1])
}

// modelLocals loads and stores.
func modelLocals(w *hier.World, f api.Frame, x api.Ins, told []string) (api.Frame, []string, bool) {
	kind, isLoad := map[byte]string{21: "I", 22: "J", 25: "A", 132: "I"}[x.Op]
	if isLoad {
		s, ok := types.Load(w, f, int(x.N), kind)
		return f, []string{s}, ok
	}
	if x.Op == 54 || x.Op == 55 || x.Op == 58 {
		f, ok := types.Store(f, int(x.N), told[0])
		return f, told, ok
	}
	return f, told, true
}

func modelStep(w *hier.World, m api.Method, f api.Frame, x api.Ins) (api.Frame, bool) {
	var told []string
	takes := modelTakes(m, x)
	slices.Reverse(takes)
	for _, t := range takes {
		g, s, ok := types.Pop(w, f, t)
		if !ok {
			return api.Frame{}, false
		}
		f, told = g, append([]string{s}, told...)
	}
	f, told, ok := modelLocals(w, f, x, told)
	if !ok || !modelMay(w, m, x, told) {
		return api.Frame{}, false
	}
	for _, t := range modelPushes(x, told) {
		if f, ok = types.Push(f, t, m.Stack); !ok {
			return api.Frame{}, false
		}
	}
	return f, true
}

// steps holds Step against the model, and tells whether it could be typed.
func steps(t testing.TB, w *hier.World, m api.Method, f api.Frame, x api.Ins) bool {
	t.Helper()
	wanted, ok := modelStep(w, m, f, x)
	if got, is := verify.Step(w, m, f, x); is != ok || !same(got, wanted) {
		t.Fatalf("%v of %q, %q, Stack %d: %q, %v, not %q, %v", x, f, m.Desc, m.Stack, got, is, wanted, ok)
	}
	return ok
}

// modelFrames goes as the words go, from Start on, instruction by instruction.
func modelFrames(w *hier.World, class string, m api.Method) ([]api.Frame, api.Errno) {
	if e := flow.Check(m); e != api.OK {
		return nil, e
	}
	comes := true
	f, e := types.Start(class, m)
	if e != api.OK {
		return nil, api.ErrType
	}
	goes := func(f api.Frame, at int) bool {
		x, ok := flow.MapAt(m, at)
		told, e := types.OfMap(w, m, x)
		return ok && e == api.OK && types.Goes(w, f, told)
	}
	var l []api.Frame
	for i, x := range m.Code {
		if told, ok := flow.MapAt(m, i); ok {
			if comes && !goes(f, i) {
				return nil, api.ErrType
			}
			if f, e = types.OfMap(w, m, told); e != api.OK {
				return nil, api.ErrType
			}
		}
		l = append(l, f)
		for _, y := range m.Traps {
			if y.Class == "" {
				y.Class = "Throwable"
			}
			caught := api.Frame{Locals: f.Locals, Stack: []string{"L" + y.Class + ";"}}
			if y.From <= i && i < y.To && !(w.Is(y.Class, "Throwable") && goes(caught, y.At)) {
				return nil, api.ErrType
			}
		}
		var ok bool
		if f, ok = modelStep(w, m, f, x); !ok {
			return nil, api.ErrType
		}
		if slices.Contains(branches(), x.Op) && !goes(f, int(x.N)) {
			return nil, api.ErrType
		}
		comes = !slices.Contains(ends(), x.Op)
	}
	return l, api.OK
}

// asks holds Method and Frames against the model, and tells what they answered.
func asks(t testing.TB, w *hier.World, class string, m api.Method) api.Errno {
	t.Helper()
	wanted, e := modelFrames(w, class, m)
	answers(t, w, class, m, e, wanted...)
	return e
}
