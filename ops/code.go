package ops

import (
	"cmp"
	"slices"

	"carpetbag/api"
)

// cut are a code's instructions; wherever its branches go.
func (f *forms) cut(code []byte) ([]api.Raw, api.Errno) {
	var l []api.Raw
	for at := 0; at < len(code); {
		r, e := f.read(code, at)
		if e != api.OK {
			return nil, e
		}
		l = append(l, r)
		at += f.size(r.Op)
	}
	return l, api.OK
}

// read is the instruction at a place of a code.
func (f *forms) read(code []byte, at int) (api.Raw, api.Errno) {
	op := code[at]
	if f[op] == none {
		return api.Raw{}, api.ErrForm
	}
	if f.size(op) > len(code)-at {
		return api.Raw{}, api.ErrShort
	}
	s := shapes[f[op]]
	a := s.a.get(code, at+opSize)
	b := s.b.get(code, at+opSize+s.a.size)
	switch f[op] {
	case api.FormBranch:
		a += at
	case api.FormArray:
		if !isKind(a) {
			return api.Raw{}, api.ErrForm
		}
	}
	return api.Raw{At: at, Op: op, A: a, B: b}, api.OK
}

// meet asks whether all branches of instructions go to one of them; their places rise.
func (f *forms) meet(l []api.Raw) bool {
	for _, r := range l {
		if f[r.Op] == api.FormBranch && !isPlace(l, r.A) {
			return false
		}
	}
	return true
}

// isPlace asks whether one of the instructions stands at a place; their places rise.
func isPlace(l []api.Raw, at int) bool {
	_, ok := slices.BinarySearchFunc(l, at, func(r api.Raw, at int) int { return cmp.Compare(r.At, at) })
	return ok
}

// measure is how many bytes instructions have, if they may be; wherever their branches go.
func (f *forms) measure(l []api.Raw) (int, bool) {
	at := 0
	for _, r := range l {
		if r.At != at || !f.mayBe(r) {
			return 0, false
		}
		at += f.size(r.Op)
	}
	return at, true
}

// mayBe asks whether an instruction may be, wherever it stands, and wherever a branch goes.
func (f *forms) mayBe(r api.Raw) bool {
	form := f[r.Op]
	s := shapes[form]
	switch form {
	case none:
		return false
	case api.FormBranch:
		return s.b.fits(r.B)
	case api.FormArray:
		return isKind(r.A) && s.b.fits(r.B)
	}
	return s.a.fits(r.A) && s.b.fits(r.B)
}

// code are the bytes of instructions that may be, all branches of which meet one.
func (f *forms) code(l []api.Raw) []byte {
	var b []byte
	for _, r := range l {
		s := shapes[f[r.Op]]
		a := r.A
		if f[r.Op] == api.FormBranch {
			a -= r.At
		}
		b = append(b, r.Op)
		b = append(b, s.a.put(a)...)
		b = append(b, s.b.put(r.B)...)
	}
	return b
}
