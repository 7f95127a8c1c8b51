package flow_test

import (
	"slices"
	"testing"

	"carpetbag/api"
	"carpetbag/desc"
	"carpetbag/flow"
)

// What the chapter's words tell.

// isThere asks whether a place is an instruction's.
func isThere(m api.Method, at int64) bool {
	for i := range m.Code {
		if int64(i) == at {
			return true
		}
	}
	return false
}

func modelCheck(m api.Method) api.Errno {
	if modelForm(m) {
		return api.ErrForm
	}
	if modelRange(m) {
		return api.ErrRange
	}
	for at := range modelMapped(m) {
		if !slices.ContainsFunc(m.Maps, func(x api.Map) bool { return x.At == at }) {
			return api.ErrMissing
		}
	}
	return api.OK
}

// modelForm asks whether a local's place, Stack, Locals, Desc, an operation or the end isn't right.
func modelForm(m api.Method) bool {
	if m.Stack < 0 || m.Stack > 64 || m.Locals < 0 || m.Locals > 64 || len(m.Code) == 0 {
		return true
	}
	if _, _, e := desc.Method(m.Desc); e != api.OK {
		return true
	}
	last := m.Code[0]
	for _, x := range m.Code {
		last = x
		if !isOperation(x.Op) {
			return true
		}
		if !slices.Contains(places(), x.Op) {
			continue
		}
		most := int64(m.Locals) - 1
		if x.Op == 22 || x.Op == 55 {
			most--
		}
		if x.N < 0 || x.N > most {
			return true
		}
	}
	return !slices.Contains(ends(), last.Op)
}

// modelRange asks whether a branch, a trap or a map has no right place.
func modelRange(m api.Method) bool {
	for _, x := range m.Code {
		if slices.Contains(branches(), x.Op) && !isThere(m, x.N) {
			return true
		}
	}
	for _, x := range m.Traps {
		if !(x.From < x.To && x.To <= len(m.Code) && isThere(m, int64(x.At))) {
			return true
		}
	}
	for i, x := range m.Maps {
		if !isThere(m, int64(x.At)) {
			return true
		}
		for _, y := range m.Maps[:i] {
			if y.At >= x.At {
				return true
			}
		}
	}
	return false
}

// modelMapped are the places where a map has to be.
func modelMapped(m api.Method) map[int]bool {
	l := map[int]bool{}
	for at, x := range m.Code {
		if slices.Contains(branches(), x.Op) {
			l[int(x.N)] = true
		}
		if slices.Contains(ends(), x.Op) && at+1 < len(m.Code) {
			l[at+1] = true
		}
	}
	for _, x := range m.Traps {
		l[x.At] = true
	}
	return l
}

func modelNexts(m api.Method, at int) []int {
	var l []int
	if !isThere(m, int64(at)) {
		return nil
	}
	x := m.Code[at]
	for to := range m.Code {
		next := to == at+1 && !slices.Contains(ends(), x.Op)
		if next || int64(to) == x.N && slices.Contains(branches(), x.Op) {
			l = append(l, to)
		}
	}
	return l
}

// modelReached goes over all instructions and traps until nothing is added any more.
func modelReached(m api.Method) []bool {
	l := make([]bool, len(m.Code))
	if len(l) > 0 {
		l[0] = true
	}
	for more := true; more; {
		more = false
		come := func(at int) {
			if isThere(m, int64(at)) && !l[at] {
				l[at], more = true, true
			}
		}
		for at := range m.Code {
			if !l[at] {
				continue
			}
			for _, to := range modelNexts(m, at) {
				come(to)
			}
			for _, x := range m.Traps {
				if at >= x.From && at < x.To {
					come(x.At)
				}
			}
		}
	}
	return l
}

func modelMapAt(m api.Method, at int) (api.Map, bool) {
	for _, x := range m.Maps {
		if x.At == at {
			return x, true
		}
	}
	return api.Map{}, false
}

// same asks whether two maps tell the same: an empty list may be nil.
func same(x, y api.Map) bool {
	return x.At == y.At && slices.Equal(x.Locals, y.Locals) && slices.Equal(x.Stack, y.Stack)
}

// asks holds all calls against the model, and tells what Check answered.
func asks(t testing.TB, m api.Method) api.Errno {
	t.Helper()
	wanted := modelCheck(m)
	if e := flow.Check(m); e != wanted {
		t.Fatalf("Check of %v: %d, not %d", m, e, wanted)
	}
	if got, wanted := flow.Reached(m), modelReached(m); !slices.Equal(got, wanted) {
		t.Fatalf("Reached of %v: %v, not %v", m, got, wanted)
	}
	n := len(m.Code)
	at := beyond(n)
	for i := range n {
		at = append(at, i)
	}
	for _, i := range at {
		if got, wanted := flow.Nexts(m, i), modelNexts(m, i); !slices.Equal(got, wanted) {
			t.Fatalf("Nexts of %v at %d: %v, not %v", m, i, got, wanted)
		}
		x, ok := modelMapAt(m, i)
		if got, is := flow.MapAt(m, i); is != ok || !same(got, x) {
			t.Fatalf("MapAt of %v at %d: %v, %v", m, i, got, is)
		}
	}
	return wanted
}
