package types_test

import (
	"slices"
	"strings"
	"testing"

	"carpetbag/api"
	"carpetbag/hier"
)

// dice tells numbers that look as if thrown, the same ones each time.
type dice uint64

func (d *dice) next(below int) int {
	*d = *d*6364136223846793005 + 1442695040888963407
	return int(uint64(*d)>>33) % below
}

// oneOf is an item of a list.
func oneOf[T any](d *dice, l ...T) T { return l[d.next(len(l))] }

// world has, beside the built-in classes, A, B of it, and x/C of B.
func world(t testing.TB) *hier.World {
	t.Helper()
	w, e := hier.New([]api.Unit{{Name: "A", Super: "Object"}, {Name: "B", Super: "A"}, {Name: "x/C", Super: "B"}})
	if e != api.OK {
		t.Fatal(e)
	}
	return w
}

// worlds are one with classes, and none.
func worlds(t testing.TB) []*hier.World { return []*hier.World{world(t), nil} }

// list are texts with "," between, none of an empty one.
func list(s string) []string {
	if s == "" {
		return nil
	}
	return strings.Split(s, ",")
}

// frame has locals and a stack, each told as a list.
func frame(locals, stack string) api.Frame {
	return api.Frame{Locals: list(locals), Stack: list(stack)}
}

// same asks whether two frames are the same: an empty list may be nil.
func same(f, g api.Frame) bool {
	return slices.Equal(f.Locals, g.Locals) && slices.Equal(f.Stack, g.Stack)
}

// isNone asks whether a frame is the zero value, as beside an error or a false.
func isNone(f api.Frame) bool { return len(f.Locals) == 0 && len(f.Stack) == 0 }

// classTypes are types of classes and arrays: those that each world has, those that world has, and some that none has.
func classTypes() (anyones, theWorlds, nobodys []string) {
	nine := strings.Repeat("[", 9)
	anyones = []string{"[I", "[B", "[[I", "[[[B", nine[1:] + "I"}
	theWorlds = []string{"LA;", "LB;", "Lx/C;", "LObject;", "LThrowable;", "Lsys;", "[LA;", "[[LB;", "[LObject;", nine[1:] + "Lx/C;"}
	nobodys = []string{"LX;", "[LX;", "[[LX;", "Lx/A;", "LC;", "Lobject;", nine[1:] + "LX;"}
	return
}

// oddTexts are no types of places.
func oddTexts() []string {
	nine := strings.Repeat("[", 9)
	return []string{"", "V", "B", "A", "1", "L", "L;", "LA", "A;", "La b;", "LA;LB;", "[", "[[", "[J", "[V", "[T", "[N", "[-", "[L;", "[LA", nine + "I", nine + "LA;", "x", "i", "II", "J-", "TT", "-J", "()V", "\x00", "LN", " I", "I "}
}

// texts are all of these, and those that name no class.
func texts() []string {
	a, b, c := classTypes()
	return slices.Concat([]string{"T", "I", "J", "-", "N"}, a, b, c, oddTexts())
}

// fewTexts are some of each kind.
func fewTexts() []string {
	return []string{"T", "I", "J", "-", "N", "LA;", "LB;", "[I", "LX;", "L", ""}
}

// rows are all lists of some of these texts, as long or shorter.
func rows(l []string, most int) [][]string {
	all := [][]string{nil}
	for from := 0; most > 0; most-- {
		to := len(all)
		for ; from < to; from++ {
			for _, s := range l {
				all = append(all, append(slices.Clone(all[from]), s))
			}
		}
	}
	return all
}

// thrownRow has places, whole longs among them; now and then anything.
func thrownRow(d *dice, most int) []string {
	var l []string
	for n := d.next(most + 1); len(l) < n; {
		switch {
		case d.next(10) == 0:
			l = append(l, oneOf(d, texts()...))
		case d.next(3) == 0:
			l = append(l, "J", "-")
		default:
			l = append(l, oneOf(d, "T", "I", "N", "LA;", "LB;", "[I", "[LB;"))
		}
	}
	return l
}

// thrownFrame has such lists.
func thrownFrame(d *dice) api.Frame {
	return api.Frame{Locals: thrownRow(d, 6), Stack: thrownRow(d, 6)}
}

// What the chapter's words tell.

func modelExpand(l []string) []string {
	l = slices.Clone(l)
	for i := len(l) - 1; i >= 0; i-- {
		if l[i] == "J" {
			l = slices.Insert(l, i+1, "-")
		}
	}
	return l
}

func modelPlace(w *hier.World, from, to string) bool {
	if to == "T" {
		return true
	}
	for _, s := range []string{"T", "I", "J", "-"} {
		if from == s || to == s {
			return from == to
		}
	}
	return w.Goes(from, to)
}

func modelGoes(w *hier.World, from, to api.Frame) bool {
	if len(from.Locals) != len(to.Locals) || len(from.Stack) != len(to.Stack) {
		return false
	}
	for i, s := range from.Locals {
		if !modelPlace(w, s, to.Locals[i]) {
			return false
		}
	}
	for i, s := range from.Stack {
		if !modelPlace(w, s, to.Stack[i]) {
			return false
		}
	}
	return true
}

// modelFits asks whether places go for t: two of "J", else one.
func modelFits(w *hier.World, places []string, t string) bool {
	if t == "J" {
		return places[0] == "J" && places[1] == "-"
	}
	p := places[0]
	switch {
	case p == "T" || p == "-":
		return false
	case t == "A":
		return p == "N" || strings.HasPrefix(p, "L") || strings.HasPrefix(p, "[")
	case t == "1":
		return p != "J"
	}
	return modelPlace(w, p, t)
}

func modelPush(f api.Frame, t string, most int) (api.Frame, bool) {
	if t == "T" || t == "-" {
		return api.Frame{}, false
	}
	stack := append(slices.Clone(f.Stack), t)
	if t == "J" {
		stack = append(stack, "-")
	}
	if len(stack) > most {
		return api.Frame{}, false
	}
	return api.Frame{Locals: f.Locals, Stack: stack}, true
}

func modelPop(w *hier.World, f api.Frame, t string) (api.Frame, string, bool) {
	at := len(f.Stack) - 1
	if t == "J" {
		at--
	}
	if at < 0 || !modelFits(w, f.Stack[at:], t) {
		return api.Frame{}, "", false
	}
	return api.Frame{Locals: f.Locals, Stack: f.Stack[:at]}, f.Stack[at], true
}

func modelLoad(w *hier.World, f api.Frame, at int, t string) (string, bool) {
	if at < 0 || at >= len(f.Locals) || t == "J" && at == len(f.Locals)-1 || !modelFits(w, f.Locals[at:], t) {
		return "", false
	}
	return f.Locals[at], true
}

func modelStore(f api.Frame, at int, t string) (api.Frame, bool) {
	if at < 0 || at >= len(f.Locals) || t == "J" && at == len(f.Locals)-1 {
		return api.Frame{}, false
	}
	last := at
	if t == "J" {
		last++
	}
	var l []string
	for i, s := range f.Locals {
		switch {
		case i == at:
			l = append(l, t)
		case i == last:
			l = append(l, "-")
		case i == last+1 && f.Locals[last] == "J", i == at-1 && f.Locals[at] == "-":
			l = append(l, "T")
		default:
			l = append(l, s)
		}
	}
	return api.Frame{Locals: l, Stack: f.Stack}, true
}
