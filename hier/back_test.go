package hier_test

import (
	"reflect"
	"testing"

	"carpetbag/api"
	"carpetbag/hier"
)

// R6: what is handed in is neither changed nor kept.

// roomy are lists with something in their spare room.
func roomy[T any](l []T) []T {
	out := make([]T, len(l), len(l)+3)
	copy(out, l)
	return out
}

// roomyFamily is the family, with spare room in each list.
func roomyFamily() []api.Unit {
	l := roomy(family())
	for i := range l {
		l[i].Fields = roomy(l[i].Fields)
		l[i].Methods = roomy(l[i].Methods)
		for j := range l[i].Methods {
			l[i].Methods[j].Traps = roomy(l[i].Methods[j].Traps)
		}
	}
	return l
}

// wholeRoom has lists with their spare room.
func wholeRoom(l []api.Unit) []api.Unit {
	l = l[:cap(l)]
	for i := range l {
		l[i].Fields = l[i].Fields[:cap(l[i].Fields)]
		l[i].Methods = l[i].Methods[:cap(l[i].Methods)]
		for j := range l[i].Methods {
			m := &l[i].Methods[j]
			m.Traps = m.Traps[:cap(m.Traps)]
		}
	}
	return l
}

func TestUnitsAreNotChanged(t *testing.T) {
	l := roomyFamily()
	worldOf(t, l...)
	if !reflect.DeepEqual(wholeRoom(l), wholeRoom(roomyFamily())) {
		t.Error("what was handed in changed")
	}
	l = roomyFamily()
	l[3].Methods[0].Static = true
	refuses(t, l...)
	l[3].Methods[0].Static = false
	if !reflect.DeepEqual(wholeRoom(l), wholeRoom(roomyFamily())) {
		t.Error("what was handed in and refused changed")
	}
}

func TestUnitsAreNotKept(t *testing.T) {
	l := family()
	w, e := hier.New(l)
	if e != api.OK {
		t.Fatal(e)
	}
	for i := range l {
		for j := range l[i].Fields {
			l[i].Fields[j] = api.Field{Static: !l[i].Fields[j].Static, Name: "x", Desc: "?"}
		}
		for j := range l[i].Methods {
			clear(l[i].Methods[j].Traps)
			l[i].Methods[j] = api.Method{Static: !l[i].Methods[j].Static, Name: "x", Desc: "?"}
		}
		l[i] = api.Unit{Name: "X", Super: "X"}
	}
	m := modelOf(family())
	tells(t, w, m, names(), types(), append(membersOf(m), native{"x", "?"}))
}

func TestWorldsDontDependOnOneAnother(t *testing.T) {
	one := worldOf(t, family()...)
	none := worldOf(t)
	other := worldOf(t, class("A", "Throwable"), class("B", "Object"))
	refuses(t, class("X", "X"))
	for range 2 {
		m := modelOf(family())
		tells(t, one, m, names(), types(), membersOf(m))
		tells(t, none, modelOf(nil), names(), types(), membersOf(m))
		tells(t, other, modelOf([]api.Unit{class("A", "Throwable"), class("B", "Object")}), names(), types(), membersOf(m))
	}
}
