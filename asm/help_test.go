package asm_test

import (
	"math"
	"reflect"
	"slices"
	"strings"
	"testing"

	"carpetbag/api"
	"carpetbag/asm"
	"carpetbag/klass"
)

// eachFile is a class that has all that a class may have.
func eachFile() api.File {
	return api.File{
		Pool: []api.Const{
			{},
			{Tag: 1, S: "a/B"},
			{Tag: 7, A: 1},
			{Tag: 1, S: "x/Super"},
			{Tag: 7, A: 3},
			{Tag: 1, S: "count"},
			{Tag: 1, S: "I"},
			{Tag: 1, S: "run"},
			{Tag: 1, S: "(IJ)V"},
			{Tag: 1, S: "Code"},
			{Tag: 1, S: "StackMap"},
			{Tag: 3, N: -2},
			{Tag: 1, S: "hi\xc0\x80"},
			{Tag: 8, A: 12},
			{Tag: 5, N: 1 << 40},
			{},
			{Tag: 12, A: 5, B: 6},
			{Tag: 9, A: 4, B: 16},
			{Tag: 12, A: 7, B: 8},
			{Tag: 10, A: 2, B: 18},
			{Tag: 1, S: "[La/B;"},
			{Tag: 7, A: 20},
			{Tag: 1, S: "[[B"},
			{Tag: 7, A: 22},
		},
		This:   2,
		Super:  4,
		Fields: []api.FileField{{Name: 5, Desc: 6}, {Flags: 8, Name: 7, Desc: 20}},
		Methods: []api.FileMethod{
			{
				Flags: 8, Name: 7, Desc: 8, Stack: 3, Locals: 4,
				Code: []byte{
					21, 1,
					153, 0, 6,
					132, 1, 255,
					18, 11,
					18, 13,
					20, 0, 14,
					178, 0, 17,
					181, 0, 17,
					184, 0, 19,
					182, 0, 19,
					187, 0, 2,
					189, 0, 21,
					192, 0, 23,
					193, 0, 4,
					188, 10,
					16, 253,
					17, 1, 44,
					167, 255, 210,
					177,
				},
				Traps: []api.FileTrap{{From: 0, To: 50, At: 49, Class: 4}, {From: 49, To: 8, At: 2}},
				Maps: []api.FileMap{
					{At: 8, Locals: []api.Slot{{Tag: 1}, {Tag: 4}, {Tag: 0}, {Tag: 7, A: 2}}, Stack: []api.Slot{{Tag: 5}, {Tag: 7, A: 21}}},
					{At: 49},
				},
			},
			{Name: 5, Desc: 8, Stack: 64, Locals: 64, Code: []byte{0, 177}},
		},
	}
}

// eachUnit is its unit, written out.
func eachUnit() api.Unit {
	return api.Unit{
		Name:   "a/B",
		Super:  "x/Super",
		Fields: []api.Field{{Name: "count", Desc: "I"}, {Static: true, Name: "run", Desc: "[La/B;"}},
		Methods: []api.Method{
			{
				Static: true, Name: "run", Desc: "(IJ)V", Stack: 3, Locals: 4,
				Code: []api.Ins{
					{Op: 21, N: 1},
					{Op: 153, N: 3},
					{Op: 132, N: 1, M: -1},
					{Op: 18, N: -2, Desc: "I"},
					{Op: 18, Desc: "S", Text: "hi\xc0\x80"},
					{Op: 20, N: 1 << 40, Desc: "J"},
					{Op: 178, Class: "x/Super", Name: "count", Desc: "I"},
					{Op: 181, Class: "x/Super", Name: "count", Desc: "I"},
					{Op: 184, Class: "a/B", Name: "run", Desc: "(IJ)V"},
					{Op: 182, Class: "a/B", Name: "run", Desc: "(IJ)V"},
					{Op: 187, Class: "a/B"},
					{Op: 189, Class: "[La/B;"},
					{Op: 192, Class: "[[B"},
					{Op: 193, Class: "x/Super"},
					{Op: 188, N: 10},
					{Op: 16, N: -3},
					{Op: 17, N: 300},
					{Op: 167, N: 0},
					{Op: 177},
				},
				Traps: []api.Trap{{From: 0, To: 19, At: 18, Class: "x/Super"}, {From: 18, To: 3, At: 1}},
				Maps: []api.Map{
					{At: 3, Locals: []string{"I", "J", "T", "La/B;"}, Stack: []string{"N", "[La/B;"}},
					{At: 18},
				},
			},
			{Name: "count", Desc: "(IJ)V", Stack: 64, Locals: 64, Code: []api.Ins{{Op: 0}, {Op: 177}}},
		},
	}
}

// unitOf is a unit with one method.
func unitOf(l ...api.Ins) api.Unit {
	return api.Unit{Name: "A", Methods: []api.Method{{Name: "m", Desc: "()V", Code: l}}}
}

// insOf is an instruction of an operation, as it may be.
func insOf(op byte) api.Ins {
	switch {
	case op == 188:
		return api.Ins{Op: op, N: 8}
	case op == opLdc:
		return api.Ins{Op: op, N: 7, Desc: "I"}
	case op == opLdc2:
		return api.Ins{Op: op, N: 7, Desc: "J"}
	case op == opNew, slices.Contains(itemOps, op):
		return api.Ins{Op: op, Class: "a/B"}
	case slices.Contains(fieldOps, op):
		return api.Ins{Op: op, Class: "a/B", Name: "f", Desc: "J"}
	case slices.Contains(methodOps, op):
		return api.Ins{Op: op, Class: "a/B", Name: "f", Desc: "(J)I"}
	}
	return api.Ins{Op: op}
}

// texts are names, types, descriptions and texts, and what is nearly so.
func texts() []string {
	return []string{
		"", "a", "a/B", "x/Super", "a/", "/a", "a//b", "a.b", "<init>", "a b", "$_9zZ", "a;", "é",
		strings.Repeat("a", 64), strings.Repeat("a", 65), strings.Repeat("a/", 31) + "ab", strings.Repeat("a/", 32) + "a",
		"I", "J", "B", "V", "S", "T", "N", "-", "L", "[", "LA;", "La/B;", "L;", "La;b;", "La/;", "L[I;", "L[I", "LLa;;", "LA", "La/B;I", "II",
		"L" + strings.Repeat("a", 64) + ";", "L" + strings.Repeat("a", 65) + ";",
		"[I", "[B", "[J", "[V", "[T", "[La/B;", "[[LA;", "[L;", "[a", "[[[[[[[[I", "[[[[[[[[[I", "[[[[[[[[LA;", "[[[[[[[[[LA;", "[II",
		"()V", "(IJ)V", "()I", "()J", "()[B", "()LA;", "()B", "()", "(V)V", "I()V", "()VV", "(I)", "(" + strings.Repeat("J", 16) + ")V", "(" + strings.Repeat("J", 17) + ")V",
		"\x00", "a\x00", "\xc0\x80", "\xc3\xa4", "\xff", "\xe4\xb8", "\xed\xa0\x80", "\xf0\x9f\x98\x80",
		"Code", "StackMap", "count", "run",
	}
}

// numbers are those at which some number stops fitting, and small ones.
func numbers() []int64 {
	l := []int64{math.MinInt64, math.MinInt64 + 1, math.MaxInt64, math.MaxInt64 - 1, 1<<32 + 1, 1<<33 + 8, 50 - 1<<32}
	for _, bits := range []int{5, 6, 7, 8, 12, 15, 16, 31, 32} {
		v := int64(1) << bits
		l = append(l, v-1, v, v+1, v+8, v+10, -v-1, -v, 1-v, 8-v)
	}
	for v := int64(-3); v < 26; v++ {
		l = append(l, v)
	}
	return append(l, 48, 49, 50, 51, 52)
}

// leaves are all numbers, texts and truths that something has.
func leaves(v reflect.Value) []reflect.Value {
	var l []reflect.Value
	switch v.Kind() {
	case reflect.Pointer:
		return leaves(v.Elem())
	case reflect.Struct:
		for i := range v.NumField() {
			l = append(l, leaves(v.Field(i))...)
		}
	case reflect.Slice:
		for i := range v.Len() {
			l = append(l, leaves(v.Index(i))...)
		}
	default:
		l = append(l, v)
	}
	return l
}

// turn has a leaf be each of some values, and asks each time; behind it the leaf is as it was.
func turn(v reflect.Value, ask func()) {
	was := reflect.ValueOf(v.Interface())
	set := func(x any) {
		v.Set(reflect.ValueOf(x).Convert(v.Type()))
		ask()
	}
	switch v.Kind() {
	case reflect.String:
		for _, s := range texts() {
			set(s)
		}
	case reflect.Uint8:
		for x := range 256 {
			set(x)
		}
	case reflect.Bool:
		set(false)
		set(true)
	default:
		for _, n := range numbers() {
			set(n)
		}
	}
	v.Set(was)
}

// plain is the same in new memory; of lists without items nil.
func plain[T any](v T) T {
	return copied(reflect.ValueOf(v)).Interface().(T)
}

func copied(v reflect.Value) reflect.Value {
	out := reflect.New(v.Type()).Elem()
	switch v.Kind() {
	case reflect.Struct:
		for i := range v.NumField() {
			out.Field(i).Set(copied(v.Field(i)))
		}
	case reflect.Slice:
		for i := range v.Len() {
			out = reflect.Append(out, copied(v.Index(i)))
		}
	default:
		out.Set(v)
	}
	return out
}

// same asks whether two are the same: an empty list may be nil.
func same[T any](a, b T) bool { return reflect.DeepEqual(plain(a), plain(b)) }

// lifts asks whether a class is lifted.
func lifts(t testing.TB, f api.File, wanted api.Unit) {
	t.Helper()
	whole := plain(f)
	u, e := asm.Lift(f)
	if e != api.OK || !same(u, wanted) {
		t.Fatalf("Lift of %+v: %+v, %d, not %+v", f, u, e, wanted)
	}
	if !same(f, whole) {
		t.Fatal("what was handed in changed")
	}
}

// liftsNone asks whether a class is refused, with one of the errors.
func liftsNone(t testing.TB, f api.File, wanted ...api.Errno) {
	t.Helper()
	whole := plain(f)
	u, e := asm.Lift(f)
	if !reflect.DeepEqual(u, api.Unit{}) || !slices.Contains(wanted, e) {
		t.Fatalf("Lift of %+v: %+v, %d, not one of %d", f, u, e, wanted)
	}
	if !same(f, whole) {
		t.Fatal("what was handed in changed")
	}
}

// lowers asks whether a unit is lowered to a class whose unit it is, and answers that.
func lowers(t testing.TB, u api.Unit) api.File {
	t.Helper()
	whole := plain(u)
	f, e := asm.Lower(u)
	if e != api.OK || klass.Check(f) != api.OK {
		t.Fatalf("Lower of %+v: %+v, %d", u, f, e)
	}
	if back, errs := modelLift(f); len(errs) > 0 || !same(back, u) {
		t.Fatalf("%+v is lowered to %+v, which is %+v, %d", u, f, back, errs)
	}
	if !same(u, whole) {
		t.Fatal("what was handed in changed")
	}
	lifts(t, f, u)
	return f
}

// lowersNone asks whether a unit is refused.
func lowersNone(t testing.TB, u api.Unit) {
	t.Helper()
	whole := plain(u)
	f, e := asm.Lower(u)
	if !reflect.DeepEqual(f, api.File{}) || e != api.ErrForm && e != api.ErrRange && e != api.ErrLong {
		t.Fatalf("Lower of %+v: %+v, %d", u, f, e)
	}
	if !same(u, whole) {
		t.Fatal("what was handed in changed")
	}
}

// judged holds Lower against the model, and answers whether there is a class.
func judged(t testing.TB, u api.Unit) bool {
	t.Helper()
	if modelUnit(u) {
		lowers(t, u)
		return true
	}
	lowersNone(t, u)
	return false
}

// read holds Lift against the model, and Lower of what it tells; it answers the error, or the first of several.
func read(t testing.TB, f api.File) api.Errno {
	t.Helper()
	u, errs := modelLift(f)
	if len(errs) > 0 {
		liftsNone(t, f, errs...)
		return errs[0]
	}
	lifts(t, f, u)
	lowers(t, u)
	return api.OK
}
