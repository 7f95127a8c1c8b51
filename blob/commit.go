package blob

import (
	"slices"

	"carpetbag/api"
	"carpetbag/rec"
)

// Commit does changes, all or none.
func (s *Store) Commit(l []api.Change) (e api.Errno) {
	if s.Down() {
		return api.ErrDown
	}
	if e = refusal(l, behindHeader(s.flash)); e != api.OK {
		return e
	}
	p, e := s.plan(roomOf(l))
	if e != api.OK {
		return e
	}
	p.lay(l)
	if e = do(p.steps); e != api.OK {
		s.down = true
		return e
	}
	s.settle(p)
	for _, c := range l {
		s.apply(c, p.head.sector)
	}
	return api.OK
}

// refusal is why changes can't be one commit of a store whose sectors have so many bytes for records.
func refusal(l []api.Change, behind int) api.Errno {
	if len(l) == 0 || len(l) > api.MaxChanges || slices.ContainsFunc(l, mayNotBe) {
		return api.ErrArg
	}
	for i, c := range l {
		if slices.ContainsFunc(l[:i], func(d api.Change) bool { return d.Key == c.Key }) {
			return api.ErrExists
		}
	}
	if roomOf(l) > behind/2 {
		return api.ErrLong
	}
	return api.OK
}

// mayNotBe asks whether a change may be no record.
func mayNotBe(c api.Change) bool {
	_, e := rec.Bytes(record(c, 1))
	return e != api.OK
}

// settle takes over what a plan brought, behind its steps.
func (s *Store) settle(p plan) {
	s.head = p.head
	for sector, keys := range p.keys {
		for _, key := range keys {
			s.blobs[key] = stand{sector: sector, blob: s.blobs[key].blob}
		}
	}
}
