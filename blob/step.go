package blob

import (
	"carpetbag/api"
	"carpetbag/nor"
	"carpetbag/page"
	"carpetbag/rec"
)

// step is something that is still to be done to the flash.
type step func() api.Errno

// do does steps, one behind the other, up to the first that fails.
func do(steps []step) (e api.Errno) {
	for _, next := range steps {
		if e = next(); e != api.OK {
			return e
		}
	}
	return api.OK
}

// turn is a sector that is opened, or let go.
type turn struct {
	flash  *nor.Flash
	sector int
	seq    uint32
}

func (t turn) open() api.Errno { return page.Open(t.flash, t.sector, t.seq) }

func (t turn) void() api.Errno { return page.Void(t.flash, t.sector) }

func (t turn) erase() api.Errno { return t.flash.Erase(t.sector) }

// letGo are the steps by which a sector doesn't count any more.
func letGo(f *nor.Flash, sector int, known api.Sector) []step {
	t := turn{flash: f, sector: sector}
	if known.Erases >= f.Geometry().Limit {
		return []step{t.void}
	}
	// Void ahead of the erase, which a crash may leave half done.
	return []step{t.void, t.erase}
}

// commit is changes, and the flash's place where their records are laid.
type commit struct {
	flash *nor.Flash
	next  int
	txn   uint32
	list  []api.Change
}

// lay lays a commit's records.
func (c commit) lay() (e api.Errno) {
	at := c.next
	for _, r := range records(c.list, c.txn) {
		if e = layRecord(c.flash, at, r); e != api.OK {
			return e
		}
		at += rec.Size(r)
	}
	return api.OK
}

// layRecord lays a record at a place of the flash.
func layRecord(f *nor.Flash, at int, r api.Rec) (e api.Errno) {
	b, e := rec.Bytes(r)
	if e != api.OK {
		return e
	}
	if e = f.Program(at, b); e != api.OK {
		return e
	}
	// An act of its own, and the last one: a record that was torn is not whole.
	return f.Program(at+len(b), []byte{0})
}
