package pool_test

import (
	"encoding/binary"

	"carpetbag/api"
	"carpetbag/utf"
)

// modelMayBe asks whether a pool may be, as the chapter's words go.
func modelMayBe(l []api.Const) bool {
	if len(l) < 1 || 1024 < len(l) || l[len(l)-1].Tag == 5 {
		return false
	}
	for at, c := range l {
		empty := at == 0 || l[at-1].Tag == 5
		if empty != (c.Tag == 0) || !modelConst(l, c) {
			return false
		}
	}
	return true
}

// modelConst asks whether the fields of a constant of a pool are right.
func modelConst(l []api.Const, c api.Const) bool {
	isA := func(tag int) bool { return modelTag(l, c.A, tag) }
	isB := func(tag int) bool { return modelTag(l, c.B, tag) }
	switch c.Tag {
	case 0:
		return c.A == 0 && c.B == 0 && c.N == 0 && c.S == ""
	case 1:
		return c.A == 0 && c.B == 0 && c.N == 0 && modelIsText(c.S)
	case 3:
		return c.A == 0 && c.B == 0 && c.S == "" && -2147483648 <= c.N && c.N <= 2147483647
	case 5:
		return c.A == 0 && c.B == 0 && c.S == ""
	case 7, 8:
		return isA(1) && c.B == 0 && c.N == 0 && c.S == ""
	case 9, 10:
		return isA(7) && isB(12) && c.N == 0 && c.S == ""
	case 12:
		return isA(1) && isB(1) && c.N == 0 && c.S == ""
	}
	return false
}

// modelTag asks whether a constant of a Tag stands at a place.
func modelTag(l []api.Const, at, tag int) bool {
	for i, c := range l {
		if i != 0 && i == at {
			return c.Tag == tag
		}
	}
	return false
}

// modelIsText asks whether a text may stand in a pool.
func modelIsText(s string) bool {
	_, e := utf.Decode([]byte(s))
	return e == api.OK && len(s) <= 65535
}

// modelBytes are the bytes of a pool that may be.
func modelBytes(l []api.Const) []byte {
	b := binary.BigEndian.AppendUint16(nil, uint16(len(l)))
	for _, c := range l {
		if c.Tag == 0 {
			continue
		}
		b = append(b, byte(c.Tag))
		switch c.Tag {
		case 1:
			b = binary.BigEndian.AppendUint16(b, uint16(len(c.S)))
			b = append(b, c.S...)
		case 3:
			b = binary.BigEndian.AppendUint32(b, uint32(c.N))
		case 5:
			b = binary.BigEndian.AppendUint64(b, uint64(c.N))
		case 7, 8:
			b = binary.BigEndian.AppendUint16(b, uint16(c.A))
		default:
			b = binary.BigEndian.AppendUint16(b, uint16(c.A))
			b = binary.BigEndian.AppendUint16(b, uint16(c.B))
		}
	}
	return b
}

// source is what bytes are read from: nil is answered where they end too early, from then on.
type source struct {
	b    []byte
	read int
	out  bool
}

func (s *source) take(n int) []byte {
	if s.out || len(s.b)-s.read < n {
		s.out = true
		return nil
	}
	s.read += n
	return s.b[s.read-n : s.read]
}

// number is the next number of n bytes, told without a sign.
func (s *source) number(n int) uint64 {
	var v uint64
	for _, x := range s.take(n) {
		v = v*256 + uint64(x)
	}
	return v
}

// constant is what stands behind a Tag; false: there is no such Tag.
func (s *source) constant(tag int) (api.Const, bool) {
	c := api.Const{Tag: tag}
	switch tag {
	case 1:
		c.S = string(s.take(int(s.number(2))))
	case 3:
		c.N = int64(int32(s.number(4)))
	case 5:
		c.N = int64(s.number(8))
	case 7, 8:
		c.A = int(s.number(2))
	case 9, 10, 12:
		c.A = int(s.number(2))
		c.B = int(s.number(2))
	default:
		return api.Const{}, false
	}
	return c, true
}

// modelParse is what Parse has to answer: what is wrong first, from the front on.
func modelParse(b []byte) ([]api.Const, int, api.Errno) {
	s := &source{b: b}
	n := int(s.number(2))
	if s.out {
		return nil, 0, api.ErrShort
	}
	if n == 0 || n > 1024 {
		return nil, 0, api.ErrForm
	}
	l := make([]api.Const, n)
	at := 1
	for at < n {
		tag := int(s.number(1))
		if s.out {
			return nil, 0, api.ErrShort
		}
		c, ok := s.constant(tag)
		if !ok {
			return nil, 0, api.ErrForm
		}
		if s.out {
			return nil, 0, api.ErrShort
		}
		l[at] = c
		at++
		if tag == 5 {
			at++
		}
	}
	if at > n || !modelMayBe(l) {
		return nil, 0, api.ErrForm
	}
	return l, s.read, api.OK
}

// modelText is what Text has to answer.
func modelText(l []api.Const, at int) (string, bool) {
	for i, c := range l {
		if i == at && i > 0 && c.Tag == 1 {
			return c.S, true
		}
	}
	return "", false
}

// modelClass is what Class has to answer.
func modelClass(l []api.Const, at int) (string, bool) {
	for i, c := range l {
		if i == at && i > 0 && c.Tag == 7 {
			return modelText(l, c.A)
		}
	}
	return "", false
}

// member is what Member answers.
type member struct {
	class, name, desc string
	ok                bool
}

// modelMember is what Member has to answer.
func modelMember(l []api.Const, at, tag int) member {
	for i, c := range l {
		if i == 0 || i != at || c.Tag != tag || tag != 9 && tag != 10 {
			continue
		}
		class, a := modelClass(l, c.A)
		for j, d := range l {
			if j == 0 || j != c.B || d.Tag != 12 {
				continue
			}
			name, b := modelText(l, d.A)
			desc, c := modelText(l, d.B)
			if a && b && c {
				return member{class, name, desc, true}
			}
		}
	}
	return member{}
}
