package blob_test

import (
	"bytes"
	"maps"
	"slices"
	"strings"
	"testing"

	"carpetbag/api"
	"carpetbag/blob"
	"carpetbag/nor"
	"carpetbag/page"
	"carpetbag/rec"
	"carpetbag/scan"
)

// model is what a store has, as the chapter's words go.
type model map[string]string

// behind is the model behind changes.
func (m model) behind(l []api.Change) model {
	next := maps.Clone(m)
	for _, c := range l {
		if c.Del {
			delete(next, c.Key)
		} else {
			next[c.Key] = string(c.Blob)
		}
	}
	return next
}

// live is the room of the model's keys: 16 of a put's header and tail, 16 of a commit.
func (m model) live() int {
	n := 0
	for key, b := range m {
		n += 16 + len(key) + len(b) + 16
	}
	return n
}

// room is a commit's.
func room(l []api.Change) int {
	n := 16
	for _, c := range l {
		n += 16 + len(c.Key)
		if !c.Del {
			n += len(c.Blob)
		}
	}
	return n
}

// content is what a store tells.
func content(s *blob.Store) model {
	m := model{}
	for _, key := range s.Keys("") {
		b, ok := s.Get(key)
		if !ok {
			b = []byte("a key without a blob")
		}
		m[key] = string(b)
	}
	return m
}

// check holds all that a store tells against the model.
func check(t *testing.T, s *blob.Store, m model) {
	t.Helper()
	if got := content(s); !maps.Equal(got, m) {
		t.Fatalf("the store tells %q, the model %q", got, m)
	}
	if got, want := s.Live(), m.live(); got != want {
		t.Fatalf("Live is %d, the model's %d", got, want)
	}
	for key := range m {
		for _, prefix := range []string{"", key, key + "\x00", key[:len(key)/2], key[:1]} {
			want := slices.DeleteFunc(slices.Sorted(maps.Keys(m)), func(k string) bool { return !strings.HasPrefix(k, prefix) })
			if got := s.Keys(prefix); !slices.Equal(got, want) {
				t.Fatalf("Keys(%q) is %q, want %q", prefix, got, want)
			}
		}
		if b, ok := s.Get(key + "?"); b != nil || ok {
			t.Fatalf("Get(%q) is %q, %v", key+"?", b, ok)
		}
	}
}

// checkMount holds what a flash tells against the model: a twin's, since Mount may let a sector go beneath the store that is in use.
func checkMount(t *testing.T, f *nor.Flash, m model) {
	t.Helper()
	check(t, mount(t, twin(t, f)), m)
}

// flash is a new one.
func flash(t testing.TB, sectors, size, limit int) *nor.Flash {
	t.Helper()
	f, e := nor.New(api.Geometry{Sectors: sectors, Size: size, Limit: limit})
	if e != api.OK {
		t.Fatal(e)
	}
	return f
}

// mount mounts what has to be mounted.
func mount(t testing.TB, f *nor.Flash) *blob.Store {
	t.Helper()
	s, e := blob.Mount(f)
	if e != api.OK || s == nil {
		t.Fatalf("Mount: %v, %d", s, e)
	}
	return s
}

// store is one on a new flash.
func store(t testing.TB, sectors, size int) (*blob.Store, *nor.Flash) {
	t.Helper()
	f := flash(t, sectors, size, api.MaxLimit)
	return mount(t, f), f
}

// commit does changes that have to be done.
func commit(t testing.TB, s *blob.Store, l ...api.Change) {
	t.Helper()
	if e := s.Commit(l); e != api.OK {
		t.Fatalf("Commit(%v): %d", l, e)
	}
}

func put(key, b string) api.Change { return api.Change{Key: key, Blob: []byte(b)} }

func del(key string) api.Change { return api.Change{Del: true, Key: key} }

// all are a flash's bytes.
func all(t testing.TB, f *nor.Flash) []byte {
	t.Helper()
	g := f.Geometry()
	b, e := f.Read(0, g.Sectors*g.Size)
	if e != api.OK {
		t.Fatal(e)
	}
	return b
}

// twin is another flash with the same bytes, erased as often.
func twin(t testing.TB, f *nor.Flash) *nor.Flash {
	t.Helper()
	g := f.Geometry()
	other := flash(t, g.Sectors, g.Size, g.Limit)
	for i := range g.Sectors {
		for range f.Erases(i) {
			other.Erase(i)
		}
	}
	if e := other.Program(0, all(t, f)); e != api.OK {
		t.Fatal(e)
	}
	return other
}

// sameFlash asks whether two flashes have the same bytes, and were erased as often.
func sameFlash(t testing.TB, a, b *nor.Flash) bool {
	for i := range a.Geometry().Sectors {
		if a.Erases(i) != b.Erases(i) {
			return false
		}
	}
	return bytes.Equal(all(t, a), all(t, b))
}

// looks are the flash's sectors.
func looks(t testing.TB, f *nor.Flash) []api.Sector {
	t.Helper()
	var l []api.Sector
	for i := range f.Geometry().Sectors {
		s, e := page.Look(f, i)
		if e != api.OK {
			t.Fatal(e)
		}
		l = append(l, s)
	}
	return l
}

// hand writes a sector by hand: a header, and behind it records, whole.
func hand(t testing.TB, f *nor.Flash, sector int, seq uint32, l ...api.Rec) {
	t.Helper()
	if e := page.Open(f, sector, seq); e != api.OK {
		t.Fatal(e)
	}
	at := page.HeadSize
	for _, r := range l {
		at += lay(t, f, sector, at, r)
	}
}

// lay lays a record, whole, and tells its size.
func lay(t testing.TB, f *nor.Flash, sector, at int, r api.Rec) int {
	t.Helper()
	b, e := rec.Bytes(r)
	if e != api.OK {
		t.Fatal(e)
	}
	program(t, f, sector, at, append(b, 0)...)
	return len(b) + 1
}

// program writes bytes into a sector.
func program(t testing.TB, f *nor.Flash, sector, at int, b ...byte) {
	t.Helper()
	if e := f.Program(sector*f.Geometry().Size+at, b); e != api.OK {
		t.Fatal(e)
	}
}

func putRec(txn uint32, key, b string) api.Rec {
	return api.Rec{Kind: api.RecPut, Txn: txn, Key: key, Blob: []byte(b)}
}

func delRec(txn uint32, key string) api.Rec { return api.Rec{Kind: api.RecDel, Txn: txn, Key: key} }

func commitRec(txn uint32, count int) api.Rec {
	return api.Rec{Kind: api.RecCommit, Txn: txn, Count: count}
}

// found is what stands in a sector, where the next record may stand, and whether it is closed.
func found(t testing.TB, f *nor.Flash, sector int) ([]api.Found, int, bool) {
	t.Helper()
	size := f.Geometry().Size
	return scan.Scan(all(t, f)[sector*size : (sector+1)*size])
}

// headOf is the place of the used sector with the greatest Seq, of several the last one; below 0: there is none.
func headOf(l []api.Sector) int {
	head := -1
	for i, s := range l {
		if s.State == api.Used && (head < 0 || s.Seq >= l[head].Seq) {
			head = i
		}
	}
	return head
}

// headRoom is how many bytes the head has left (0, if there is none), and the greatest Txn that it has.
func headRoom(t testing.TB, f *nor.Flash) (int, uint32) {
	t.Helper()
	head := headOf(looks(t, f))
	if head < 0 {
		return 0, 0
	}
	l, next, closed := found(t, f, head)
	var txn uint32
	for _, x := range l {
		txn = max(txn, x.Rec.Txn)
	}
	if closed || txn > 1<<32-65537 {
		return 0, txn
	}
	return f.Geometry().Size - next, txn
}
