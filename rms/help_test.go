package rms_test

import (
	"bytes"
	"fmt"
	"maps"
	"math"
	"reflect"
	"slices"
	"strings"
	"testing"

	"carpetbag/api"
	"carpetbag/blob"
	"carpetbag/nor"
	"carpetbag/rms"
	"carpetbag/scan"
)

// flash is a new one.
func flash(t testing.TB, sectors, size int) *nor.Flash {
	t.Helper()
	f, e := nor.New(api.Geometry{Sectors: sectors, Size: size, Limit: api.MaxLimit})
	if e != api.OK {
		t.Fatal(e)
	}
	return f
}

// mount mounts what has to be mounted.
func mount(t testing.TB, f *nor.Flash) *blob.Store {
	t.Helper()
	s, e := blob.Mount(f)
	if e != api.OK || s == nil {
		t.Fatalf("Mount: %v, %d", s, e)
	}
	return s
}

// roomy is a store of blobs with more room than a test needs, and its flash.
func roomy(t testing.TB) (*blob.Store, *nor.Flash) {
	t.Helper()
	f := flash(t, 8, 32768)
	return mount(t, f), f
}

// bytesOf are a flash's bytes.
func bytesOf(t testing.TB, f *nor.Flash) []byte {
	t.Helper()
	g := f.Geometry()
	b, e := f.Read(0, g.Sectors*g.Size)
	if e != api.OK {
		t.Fatal(e)
	}
	return b
}

// twin is another flash with the same bytes, erased as often.
func twin(t testing.TB, f *nor.Flash) *nor.Flash {
	t.Helper()
	g := f.Geometry()
	other := flash(t, g.Sectors, g.Size)
	for i := range g.Sectors {
		for range f.Erases(i) {
			other.Erase(i)
		}
	}
	if e := other.Program(0, bytesOf(t, f)); e != api.OK {
		t.Fatal(e)
	}
	return other
}

// commits is how many commits stand on a flash, and how many changes.
func commits(t testing.TB, f *nor.Flash) (n, changes int) {
	t.Helper()
	all := bytesOf(t, f)
	for sector := range slices.Chunk(all, f.Geometry().Size) {
		l, _, _ := scan.Scan(sector)
		for _, x := range l {
			if x.Rec.Kind == api.RecCommit {
				n++
			} else {
				changes++
			}
		}
	}
	return n, changes
}

// put puts a blob past the record stores.
func put(t testing.TB, s *blob.Store, key string, b []byte) {
	t.Helper()
	if e := s.Commit([]api.Change{{Key: key, Blob: b}}); e != api.OK {
		t.Fatalf("Commit of %q: %d", key, e)
	}
}

// putRecords puts a record store past the calls.
func putRecords(t testing.TB, s *blob.Store, suite, name string, r api.Records) {
	t.Helper()
	put(t, s, "r/"+suite+"/"+name, modelBytes(r))
}

// open opens what has to be there.
func open(t testing.TB, s *blob.Store, suite, name string) api.Records {
	t.Helper()
	r, e := rms.Open(s, suite, name, false)
	if e != api.OK {
		t.Fatalf("Open(%q, %q): %d", suite, name, e)
	}
	return r
}

// create makes what has to be made.
func create(t testing.TB, s *blob.Store, suite, name string) {
	t.Helper()
	if r, e := rms.Open(s, suite, name, true); e != api.OK || !same(r, api.Records{Next: 1}) {
		t.Fatalf("Open(%q, %q, true): %v, %d", suite, name, r, e)
	}
}

// add adds what has to be added, as that ID.
func add(t testing.TB, s *blob.Store, suite, name, data string, wanted uint32) {
	t.Helper()
	if id, e := rms.Add(s, suite, name, []byte(data)); id != wanted || e != api.OK {
		t.Fatalf("Add(%q, %q) of %d bytes: %d, %d, not %d", suite, name, len(data), id, e, wanted)
	}
}

// same asks whether two record stores are the same, an empty list being none.
func same(a, b api.Records) bool {
	return a.Next == b.Next && a.Version == b.Version && slices.EqualFunc(a.List, b.List, func(x, y api.Entry) bool {
		return x.ID == y.ID && bytes.Equal(x.Data, y.Data)
	})
}

// number is the lowest n bytes of a number, the highest first.
func number(v, n int) []byte {
	b := make([]byte, n)
	for i := n - 1; i >= 0; i-- {
		b[i] = byte(v % 256)
		v /= 256
	}
	return b
}

// modelBytes are a record store's, as the chapter's words go, whether it may be or not.
func modelBytes(r api.Records) []byte {
	b := slices.Concat(number(int(r.Next), 4), number(int(r.Version), 4), number(len(r.List), 2))
	for _, x := range r.List {
		b = append(b, number(int(x.ID), 4)...)
		b = append(b, number(len(x.Data), 2)...)
		b = append(b, x.Data...)
	}
	return b
}

// modelMayBe is the chapter's rule of which record stores may be.
func modelMayBe(r api.Records) bool {
	row := []int{0}
	for _, x := range r.List {
		if len(x.Data) > 512 {
			return false
		}
		row = append(row, int(x.ID))
	}
	row = append(row, int(r.Next))
	for i := range row[1:] {
		if row[i] >= row[i+1] {
			return false
		}
	}
	return len(r.List) <= 64
}

// value is the number that bytes are.
func value(b []byte) int {
	v := 0
	for _, x := range b {
		v = v*256 + int(x)
	}
	return v
}

// modelParse reads bytes as the chapter's words go.
func modelParse(b []byte) (r api.Records, ok bool) {
	if len(b) < 10 {
		return r, false
	}
	r.Next, r.Version = uint32(value(b[:4])), uint32(value(b[4:8]))
	n := value(b[8:10])
	for b = b[10:]; n > 0; n-- {
		if len(b) < 6 || len(b) < 6+value(b[4:6]) {
			return api.Records{}, false
		}
		end := 6 + value(b[4:6])
		r.List = append(r.List, api.Entry{ID: uint32(value(b[:4])), Data: b[6:end]})
		b = b[end:]
	}
	if len(b) > 0 || !modelMayBe(r) {
		return api.Records{}, false
	}
	return r, true
}

// place is where a record store stands.
type place struct{ suite, name string }

// box is a record store of the model.
type box struct {
	next, version int
	data          map[int]string
}

// model is all record stores, as the chapter's words go.
type model map[place]box

// records is what Open tells of a box.
func (b box) records() api.Records {
	r := api.Records{Next: uint32(b.next), Version: uint32(b.version)}
	for _, id := range slices.Sorted(maps.Keys(b.data)) {
		r.List = append(r.List, api.Entry{ID: uint32(id), Data: []byte(b.data[id])})
	}
	return r
}

// copy is a model of its own.
func (m model) copy() model {
	next := model{}
	for p, b := range m {
		b.data = maps.Clone(b.data)
		next[p] = b
	}
	return next
}

// names are those of a suite's stores.
func (m model) names(suite string) []string {
	var l []string
	for p := range m {
		if p.suite == suite {
			l = append(l, p.name)
		}
	}
	slices.Sort(l)
	return l
}

// The kinds of a step.
const (
	opening = iota
	adding
	setting
	deleting
	dropping
	kinds
)

// step is a call that changes a record store.
type step struct {
	kind int
	place
	id   int
	data string
}

func (x step) String() string {
	return fmt.Sprintf("%s %s/%s %d, %d bytes", []string{"open", "add", "set", "delete", "drop"}[x.kind], x.suite, x.name, x.id, len(x.data))
}

// do does a step: what it answers.
func (x step) do(s *blob.Store) (id uint32, e api.Errno) {
	switch x.kind {
	case opening:
		_, e = rms.Open(s, x.suite, x.name, true)
	case adding:
		id, e = rms.Add(s, x.suite, x.name, []byte(x.data))
	case setting:
		e = rms.Set(s, x.suite, x.name, uint32(x.id), []byte(x.data))
	case deleting:
		e = rms.Delete(s, x.suite, x.name, uint32(x.id))
	case dropping:
		e = rms.Drop(s, x.suite, x.name)
	}
	return id, e
}

// behind is the model behind a step, and what the step answers.
func (m model) behind(x step) (next model, id uint32, e api.Errno) {
	next = m.copy()
	b, there := next[x.place]
	_, entry := b.data[x.id]
	switch {
	case x.kind == opening && there:
		return m, 0, api.OK
	case x.kind == opening && len(m.names(x.suite)) >= 8:
		return m, 0, api.ErrLong
	case x.kind == opening:
		next[x.place] = box{next: 1, data: map[int]string{}}
		return next, 0, api.OK
	case !there:
		return m, 0, api.ErrMissing
	case x.kind == dropping:
		delete(next, x.place)
		return next, 0, api.OK
	case x.kind != adding && !entry:
		return m, 0, api.ErrMissing
	case x.kind != deleting && len(x.data) > 512:
		return m, 0, api.ErrLong
	case x.kind == adding && (len(b.data) == 64 || b.next == math.MaxUint32):
		return m, 0, api.ErrLong
	}
	switch x.kind {
	case adding:
		id = uint32(b.next)
		b.data[b.next] = x.data
		b.next++
	case setting:
		b.data[x.id] = x.data
	case deleting:
		delete(b.data, x.id)
	}
	b.version++
	next[x.place] = b
	return next, id, api.OK
}

// told is what the record stores of a store of blobs are, by its keys and by Open.
func told(t testing.TB, s *blob.Store) model {
	t.Helper()
	m := model{}
	for _, key := range s.Keys("r/") {
		l := strings.Split(key, "/")
		r := open(t, s, l[1], l[2])
		b := box{next: int(r.Next), version: int(r.Version), data: map[int]string{}}
		for _, x := range r.List {
			b.data[int(x.ID)] = string(x.Data)
		}
		m[place{l[1], l[2]}] = b
	}
	return m
}

// sameModel asks whether two models are the same.
func sameModel(a, b model) bool { return reflect.DeepEqual(a, b) }

// check holds all that can be asked of a store of blobs against the model.
func check(t testing.TB, s *blob.Store, m model, suites ...string) {
	t.Helper()
	if got := told(t, s); !sameModel(got, m) {
		t.Fatalf("the store tells %v, the model %v", got, m)
	}
	for _, suite := range suites {
		if got := rms.Names(s, suite); !slices.Equal(got, m.names(suite)) {
			t.Fatalf("Names(%q): %q, want %q", suite, got, m.names(suite))
		}
	}
	for p, b := range m {
		if r := open(t, s, p.suite, p.name); !same(r, b.records()) {
			t.Fatalf("Open(%v): %v, want %v", p, r, b)
		}
		for id := range min(b.next+2, 200) {
			want, there := b.data[id]
			got, e := rms.Get(s, p.suite, p.name, uint32(id))
			if there && (e != api.OK || string(got) != want) || !there && (e != api.ErrMissing || got != nil) {
				t.Fatalf("Get(%v, %d): %q, %d, want %q, %v", p, id, got, e, want, there)
			}
		}
	}
}
