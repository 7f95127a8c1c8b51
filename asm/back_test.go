package asm_test

import (
	"reflect"
	"testing"

	"carpetbag/api"
	"carpetbag/asm"
	"carpetbag/klass"
)

// P15.2: there and back.

func TestThereAndBack(t *testing.T) {
	d := dice(1)
	for range 5000 {
		u := thrownUnit(&d)
		if !modelUnit(u) {
			t.Fatalf("no unit: %+v", u)
		}
		f := lowers(t, u)
		b, e := klass.Bytes(f)
		if e != api.OK {
			t.Fatalf("Bytes of %+v: %d", f, e)
		}
		if g, e := klass.Parse(b); e != api.OK || !same(f, g) {
			t.Fatalf("%+v is parsed as %+v, %d", f, g, e)
		}
	}
}

// TestLiftedIsLoweredAndLifted goes the other way round, from classes whose pools lie in many ways.
func TestLiftedIsLoweredAndLifted(t *testing.T) {
	d := dice(2)
	for range 5000 {
		u := thrownUnit(&d)
		f := thrownFile(&d, u)
		lifts(t, f, u)
		lifts(t, lowers(t, u), u)
	}
}

func TestTurnedUnits(t *testing.T) {
	d := dice(3)
	got := map[bool]int{}
	all, some := texts(), numbers()
	for range 10000 {
		u := thrownUnit(&d)
		for range 1 + d.next(2) {
			l := leaves(reflect.ValueOf(&u))
			switch v := l[d.next(len(l))]; v.Kind() {
			case reflect.String:
				v.SetString(oneOf(&d, all...))
			case reflect.Uint8:
				v.SetUint(uint64(d.next(256)))
			case reflect.Bool:
				v.SetBool(d.next(2) == 0)
			default:
				v.SetInt(oneOf(&d, some...))
			}
		}
		got[judged(t, u)]++
	}
	if got[true] < 1000 || got[false] < 1000 {
		t.Errorf("but %v", got)
	}
}

func TestTurnedClasses(t *testing.T) {
	d := dice(4)
	got := map[api.Errno]int{}
	all, some := texts(), numbers()
	for range 20000 {
		f := thrownFile(&d, thrownUnit(&d))
		for range 1 + d.next(2) {
			l := leaves(reflect.ValueOf(&f))
			switch v := l[d.next(len(l))]; v.Kind() {
			case reflect.String:
				v.SetString(oneOf(&d, all...))
			case reflect.Uint8:
				v.SetUint(uint64(d.next(256)))
			default:
				v.SetInt(oneOf(&d, some...))
			}
		}
		got[read(t, f)]++
	}
	for _, e := range []api.Errno{api.OK, api.ErrForm, api.ErrRange} {
		if got[e] < 100 {
			t.Errorf("but %d of the classes tell %d", got[e], e)
		}
	}
}

// R6: what is handed in is neither changed nor kept, and what is answered is new memory.

// spoil writes over all that something has, and its lists' spare room.
func spoil(v reflect.Value) {
	switch v.Kind() {
	case reflect.Pointer:
		spoil(v.Elem())
	case reflect.Struct:
		for i := range v.NumField() {
			spoil(v.Field(i))
		}
	case reflect.Slice:
		l := v.Slice(0, v.Cap())
		for i := range l.Len() {
			spoil(l.Index(i))
		}
	case reflect.String:
		v.SetString("spoilt")
	case reflect.Bool:
		v.SetBool(!v.Bool())
	case reflect.Uint8:
		v.SetUint(0xee)
	default:
		v.SetInt(-77)
	}
}

// roomy is the same in new memory, with something in each list's spare room.
func roomy[T any](v T) T {
	out := reflect.New(reflect.TypeOf(v)).Elem()
	out.Set(withRoom(reflect.ValueOf(v)))
	return out.Interface().(T)
}

func withRoom(v reflect.Value) reflect.Value {
	out := copied(v)
	switch v.Kind() {
	case reflect.Struct:
		for i := range v.NumField() {
			out.Field(i).Set(withRoom(v.Field(i)))
		}
	case reflect.Slice:
		n := v.Len()
		out = reflect.MakeSlice(v.Type(), n+2, n+2)
		for i := range n {
			out.Index(i).Set(withRoom(v.Index(i)))
		}
		out = out.Slice(0, n)
	}
	return out
}

// roomIsLeft asks whether all lists' spare room is as roomy made it.
func roomIsLeft(v reflect.Value) bool {
	switch v.Kind() {
	case reflect.Struct:
		for i := range v.NumField() {
			if !roomIsLeft(v.Field(i)) {
				return false
			}
		}
	case reflect.Slice:
		for i := range v.Len() {
			if !roomIsLeft(v.Index(i)) {
				return false
			}
		}
		room := v.Slice(v.Len(), v.Cap())
		for i := range room.Len() {
			if !room.Index(i).IsZero() {
				return false
			}
		}
	}
	return true
}

func TestSpareRoomIsNotChanged(t *testing.T) {
	u := roomy(eachUnit())
	lowers(t, u)
	u.Methods[0].Code[3].Text = "wrong"
	lowersNone(t, u)
	f := roomy(eachFile())
	lifts(t, f, eachUnit())
	f.Methods[0].Maps[0].At = 1
	liftsNone(t, f, api.ErrRange)
	if !roomIsLeft(reflect.ValueOf(u)) || !roomIsLeft(reflect.ValueOf(f)) {
		t.Error("spare room changed")
	}
}

func TestNothingIsKept(t *testing.T) {
	f := eachFile()
	u, _ := asm.Lift(f)
	spoil(reflect.ValueOf(&f))
	if !same(u, eachUnit()) {
		t.Fatal("a class's memory is kept")
	}
	one, _ := asm.Lower(u)
	two, _ := asm.Lower(u)
	spoil(reflect.ValueOf(&u))
	if !same(one, two) {
		t.Fatal("a unit's memory is kept")
	}
	spoil(reflect.ValueOf(&one))
	lifts(t, two, eachUnit())
}

func TestAnswersAreNewMemory(t *testing.T) {
	f := roomy(eachFile())
	u, _ := asm.Lift(f)
	spoil(reflect.ValueOf(&u))
	if !same(f, eachFile()) || !roomIsLeft(reflect.ValueOf(f)) {
		t.Fatal("what is answered is what was handed in")
	}
	u = roomy(eachUnit())
	f, _ = asm.Lower(u)
	spoil(reflect.ValueOf(&f))
	if !same(u, eachUnit()) || !roomIsLeft(reflect.ValueOf(u)) {
		t.Fatal("what is answered is what was handed in")
	}
}

// lists are all lists that something has.
func lists(v reflect.Value) []reflect.Value {
	var l []reflect.Value
	switch v.Kind() {
	case reflect.Pointer:
		return lists(v.Elem())
	case reflect.Struct:
		for i := range v.NumField() {
			l = append(l, lists(v.Field(i))...)
		}
	case reflect.Slice:
		l = append(l, v)
		for i := range v.Len() {
			l = append(l, lists(v.Index(i))...)
		}
	}
	return l
}

// ownLists asks whether no two lists of something share memory, their spare room neither.
func ownLists(t *testing.T, v reflect.Value) {
	t.Helper()
	type span struct{ from, to uintptr }
	var l []span
	for _, x := range lists(v) {
		if x.Cap() > 0 {
			l = append(l, span{x.Pointer(), x.Pointer() + uintptr(x.Cap())*x.Type().Elem().Size()})
		}
	}
	for i, a := range l {
		for _, b := range l[:i] {
			if a.from < b.to && b.from < a.to {
				t.Error("two lists share memory")
			}
		}
	}
}

func TestListsOfOneAnswerAreTheirOwn(t *testing.T) {
	// Two methods, and two maps, with the same lists.
	u := eachUnit()
	u.Methods = append(u.Methods, u.Methods...)
	u.Methods[0].Maps[1] = u.Methods[0].Maps[0]
	u.Methods[0].Maps[0].Stack = u.Methods[0].Maps[0].Locals
	f, e := asm.Lower(u)
	if e != api.OK {
		t.Fatal(e)
	}
	ownLists(t, reflect.ValueOf(&f))
	f = eachFile()
	f.Methods = append(f.Methods, f.Methods...)
	f.Methods[0].Maps[1] = f.Methods[0].Maps[0]
	f.Methods[0].Maps[0].Stack = f.Methods[0].Maps[0].Locals
	u, e = asm.Lift(f)
	if e != api.OK {
		t.Fatal(e)
	}
	ownLists(t, reflect.ValueOf(&u))
}

// TestCallsDontDependOnOneAnother asks once more behind what is refused.
func TestCallsDontDependOnOneAnother(t *testing.T) {
	first, _ := asm.Lower(eachUnit())
	for range 3 {
		lifts(t, eachFile(), eachUnit())
		liftsNone(t, api.File{}, api.ErrForm)
		lowersNone(t, full(t, 1025))
		lowersNone(t, unitOf(api.Ins{Op: 167, N: 1}))
		if f := lowers(t, eachUnit()); !same(f, first) {
			t.Fatalf("%+v, not %+v", f, first)
		}
	}
}
