package blob

import (
	"math"

	"carpetbag/api"
	"carpetbag/nor"
	"carpetbag/page"
	"carpetbag/rec"
	"carpetbag/wear"
)

// plan is what the flash would be behind steps that aren't done yet: where no room is made nothing was done.
type plan struct {
	flash   *nor.Flash
	blobs   map[string]stand
	sectors []api.Sector
	keys    [][]string // by sectors: the keys whose blobs stand in it
	head    head
	steps   []step
}

// plan tells how room for so many bytes is made in the head.
func (s *Store) plan(room int) (p plan, e api.Errno) {
	p = plan{flash: s.flash, blobs: s.blobs, head: s.head}
	if p.head.takes(room) {
		return p, api.OK
	}
	if p.sectors, e = look(s.flash); e != api.OK {
		s.down = true
		return plan{}, e
	}
	p.keys = s.keysBySector()
	for range 4 * len(p.sectors) {
		if !p.makeRoom() {
			break
		}
		if p.head.takes(room) {
			return p, api.OK
		}
	}
	return plan{}, api.ErrSpace
}

// keysBySector is the keys whose blobs stand in each sector, in order.
func (s *Store) keysBySector() [][]string {
	keys := make([][]string, s.flash.Geometry().Sectors)
	for _, key := range s.Keys("") {
		sector := s.blobs[key].sector
		keys[sector] = append(keys[sector], key)
	}
	return keys
}

// makeRoom opens a sector, or cleans one; false: neither can be done.
func (p *plan) makeRoom() bool {
	// The last one that can be opened is kept: without it nothing could be cleaned any more.
	if wear.Free(p.sectors, p.limit()) >= 2 {
		return p.open()
	}
	return p.clean()
}

func (p *plan) limit() int { return p.flash.Geometry().Limit }

// open opens a sector as the head.
func (p *plan) open() bool {
	i, ok := wear.Next(p.sectors, p.limit())
	seq, more := p.nextSeq()
	if !ok || !more {
		return false
	}
	erases := p.sectors[i].Erases
	if p.sectors[i].State == api.Dirty {
		erases++
	}
	p.sectors[i] = api.Sector{State: api.Used, Seq: seq, Erases: erases}
	p.steps = append(p.steps, turn{flash: p.flash, sector: i, seq: seq}.open)
	begin := i * p.flash.Geometry().Size
	p.head = head{sector: i, next: begin + page.HeadSize, left: behindHeader(p.flash)}
	return true
}

// nextSeq is the Seq behind those of all used sectors; false: there is none.
func (p *plan) nextSeq() (uint32, bool) {
	var last uint32
	for _, s := range p.sectors {
		if s.State == api.Used {
			last = max(last, s.Seq)
		}
	}
	if last == math.MaxUint32 {
		return 0, false
	}
	return last + 1, true
}

// clean puts the keys of the oldest sector once more, and lets it go.
func (p *plan) clean() bool {
	i, ok := wear.Oldest(p.sectors)
	if !ok {
		return false
	}
	if i == p.head.sector {
		// What would be put into it would be let go with it.
		p.head = head{}
	}
	keys := p.keys[i]
	p.keys[i] = nil
	if !p.putAgain(keys) {
		return false
	}
	p.letGo(i)
	return true
}

// putAgain puts keys once more: as many of them in a commit as go, since a sector of full commits may have no room for more commits than it had.
func (p *plan) putAgain(keys []string) bool {
	for len(keys) > 0 {
		list := p.fitting(keys)
		if len(list) == 0 {
			if !p.open() {
				return false
			}
			continue
		}
		p.lay(list)
		sector := p.head.sector
		p.keys[sector] = append(p.keys[sector], keys[:len(list)]...)
		keys = keys[len(list):]
	}
	return true
}

// fitting is the puts of the first keys, as many as one commit may have and the head has room for.
func (p *plan) fitting(keys []string) []api.Change {
	var list []api.Change
	room := roomOf(nil)
	for _, key := range keys[:min(len(keys), api.MaxChanges)] {
		c := api.Change{Key: key, Blob: p.blobs[key].blob}
		if room += rec.Size(record(c, 0)); !p.head.takes(room) {
			break
		}
		list = append(list, c)
	}
	return list
}

// lay lays a commit in the head, which has room for it.
func (p *plan) lay(l []api.Change) {
	p.head.txn++
	p.steps = append(p.steps, commit{flash: p.flash, next: p.head.next, txn: p.head.txn, list: l}.lay)
	room := roomOf(l)
	p.head.next += room
	p.head.left -= room
}

// letGo lets a sector go, to be opened once more if it isn't worn out.
func (p *plan) letGo(i int) {
	p.steps = append(p.steps, letGo(p.flash, i, p.sectors[i])...)
	erases := p.sectors[i].Erases
	if erases < p.limit() {
		p.sectors[i] = api.Sector{State: api.Blank, Erases: erases + 1}
	} else {
		p.sectors[i] = api.Sector{State: api.Dirty, Erases: erases}
	}
}
