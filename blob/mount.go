package blob

import (
	"bytes"
	"cmp"
	"maps"
	"slices"

	"carpetbag/api"
	"carpetbag/nor"
	"carpetbag/scan"
	"carpetbag/wear"
)

// Mount tells what a flash has.
func Mount(f *nor.Flash) (s *Store, e api.Errno) {
	if f == nil {
		return nil, api.ErrArg
	}
	sectors, e := look(f)
	if e != api.OK {
		return nil, e
	}
	row := usedRow(sectors)
	if s, e = told(f, row); e != api.OK {
		return nil, e
	}
	if wear.Free(sectors, f.Geometry().Limit) > 0 || len(row) < 2 {
		return s, api.OK
	}
	// A crash ahead of a cleaned sector's end leaves none to open, and two that tell the same.
	newest := row[len(row)-1]
	less, e := told(f, row[:len(row)-1])
	if e != api.OK {
		return nil, e
	}
	if !sameBlobs(s, less) {
		return s, api.OK
	}
	if e = do(letGo(f, newest, sectors[newest])); e != api.OK {
		return nil, e
	}
	return less, api.OK
}

// usedRow is the places of the used sectors, in the order of Seq.
func usedRow(sectors []api.Sector) []int {
	var row []int
	for i, s := range sectors {
		if s.State == api.Used {
			row = append(row, i)
		}
	}
	slices.SortStableFunc(row, func(a, b int) int { return cmp.Compare(sectors[a].Seq, sectors[b].Seq) })
	return row
}

// told is the store that a row of sectors tells, the last of which is its head.
func told(f *nor.Flash, row []int) (s *Store, e api.Errno) {
	s = &Store{flash: f, blobs: map[string]stand{}}
	for _, sector := range row {
		if e = s.read(sector); e != api.OK {
			return nil, e
		}
	}
	return s, api.OK
}

// read does what counts in a sector.
func (s *Store) read(sector int) (e api.Errno) {
	size := s.flash.Geometry().Size
	b, e := s.flash.Read(sector*size, size)
	if e != api.OK {
		return e
	}
	found, next, closed := scan.Scan(b)
	for _, f := range scan.Commits(found) {
		s.apply(api.Change{Del: f.Rec.Kind == api.RecDel, Key: f.Rec.Key, Blob: f.Rec.Blob}, sector)
	}
	s.head = head{}
	if !closed {
		s.head = head{sector: sector, next: sector*size + next, left: size - next, txn: greatestTxn(found)}
	}
	return api.OK
}

// apply does a change that stands in a sector.
func (s *Store) apply(c api.Change, sector int) {
	if c.Del {
		delete(s.blobs, c.Key)
		return
	}
	s.blobs[c.Key] = stand{sector: sector, blob: bytes.Clone(c.Blob)}
}

// greatestTxn is the greatest Txn of a sector's records, of those that don't count, too.
func greatestTxn(l []api.Found) uint32 {
	var txn uint32
	for _, f := range l {
		txn = max(txn, f.Rec.Txn)
	}
	return txn
}

// sameBlobs asks whether two stores have the same blobs by the same keys.
func sameBlobs(a, b *Store) bool {
	return maps.EqualFunc(a.blobs, b.blobs, func(x, y stand) bool { return bytes.Equal(x.blob, y.blob) })
}
