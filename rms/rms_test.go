package rms_test

import (
	"bytes"
	"math"
	"slices"
	"strings"
	"testing"

	"carpetbag/api"
	"carpetbag/blob"
	"carpetbag/nor"
	"carpetbag/rms"
)

// broken are blobs that are no record store's.
func broken() [][]byte {
	l := [][]byte{nil, {0}, []byte("no record store"), make([]byte, 10), make([]byte, 4096), {0, 0, 0, 1, 0, 0, 0, 0, 0}, {0, 0, 0, 1, 0, 0, 0, 0, 0, 0, 0}}
	for _, r := range mayNotBe() {
		if b := modelBytes(r); len(b) <= api.MaxBlob {
			l = append(l, b)
		}
	}
	return l
}

// unchanged runs what has to change nothing on the flash.
func unchanged(t *testing.T, f *nor.Flash, what func()) {
	t.Helper()
	before := bytesOf(t, f)
	what()
	if !bytes.Equal(bytesOf(t, f), before) {
		t.Error("what was refused, or only asked, changed the flash")
	}
}

// P9.1: what isn't there is missing, and made only if that is asked.
func TestOpen(t *testing.T) {
	s, f := roomy(t)
	create(t, s, "other", "b")
	unchanged(t, f, func() {
		for range 2 {
			callAnswers(t, s, place{"a", "b"}, false, api.ErrMissing)
		}
		eachAnswers(t, s, place{"a", "b"}, api.ErrMissing)
		eachAnswers(t, s, place{"b", "other"}, api.ErrMissing)
	})
	create(t, s, "a", "b")
	if r := open(t, s, "a", "b"); !same(r, api.Records{Next: 1}) {
		t.Errorf("%v", r)
	}
	if r := open(t, mount(t, twin(t, f)), "a", "b"); !same(r, api.Records{Next: 1}) {
		t.Errorf("behind Mount: %v", r)
	}
	add(t, s, "a", "b", "xyz", 1)
	unchanged(t, f, func() {
		for _, create := range []bool{false, true} {
			r, e := rms.Open(s, "a", "b", create)
			if e != api.OK || !same(r, api.Records{Next: 2, Version: 1, List: []api.Entry{{ID: 1, Data: []byte("xyz")}}}) {
				t.Errorf("Open, %v: %v, %d", create, r, e)
			}
		}
	})
}

// P9.1: a suite has at most MaxStores; those of others don't count.
func TestMaxStores(t *testing.T) {
	s, f := roomy(t)
	for i := range 5 {
		create(t, s, "b", string(rune('a'+i)))
		create(t, s, "a"+string(rune('a'+i)), "x")
	}
	for i := range 8 {
		if got := len(rms.Names(s, "a")); got != i {
			t.Fatalf("%d names, not %d", got, i)
		}
		create(t, s, "a", string(rune('a'+i)))
	}
	unchanged(t, f, func() {
		for _, name := range []string{"i", "z", "-"} {
			callAnswers(t, s, place{"a", name}, true, api.ErrLong)
			callAnswers(t, s, place{"a", name}, false, api.ErrMissing)
		}
		if r, e := rms.Open(s, "a", "h", true); e != api.OK || !same(r, api.Records{Next: 1}) {
			t.Errorf("one that is there: %v, %d", r, e)
		}
	})
	add(t, s, "a", "h", "1", 1)
	create(t, s, "b", "f")
	if e := rms.Drop(s, "a", "c"); e != api.OK {
		t.Fatal(e)
	}
	create(t, s, "a", "i")
	callAnswers(t, s, place{"a", "c"}, true, api.ErrLong)
}

// P9.1: entries, step by step, and what is told of them.
func TestSteps(t *testing.T) {
	s, f := roomy(t)
	create(t, s, "a", "b")
	add(t, s, "a", "b", "one", 1)
	add(t, s, "a", "b", "", 2)
	add(t, s, "a", "b", "three", 3)
	if e := rms.Set(s, "a", "b", 2, []byte("two")); e != api.OK {
		t.Error(e)
	}
	if e := rms.Delete(s, "a", "b", 1); e != api.OK {
		t.Error(e)
	}
	if e := rms.Set(s, "a", "b", 3, nil); e != api.OK {
		t.Error(e)
	}
	want := api.Records{Next: 4, Version: 6, List: []api.Entry{{ID: 2, Data: []byte("two")}, {ID: 3}}}
	for _, x := range []*blob.Store{s, mount(t, twin(t, f))} {
		if r := open(t, x, "a", "b"); !same(r, want) {
			t.Errorf("%v", r)
		}
		for id, data := range []string{"", "", "two", ""} {
			b, e := rms.Get(x, "a", "b", uint32(id))
			if id < 2 && (b != nil || e != api.ErrMissing) || id >= 2 && (string(b) != data || e != api.OK) {
				t.Errorf("Get(%d): %q, %d", id, b, e)
			}
		}
	}
	if r := open(t, s, "a", "b"); r.Version != 6 {
		t.Errorf("what was only asked changed Version: %d", r.Version)
	}
}

// P9.1: an entry that isn't there, by its neighbours and the edges.
func TestMissingEntries(t *testing.T) {
	s, f := roomy(t)
	const last = math.MaxUint32
	putRecords(t, s, "a", "b", api.Records{Next: last, List: []api.Entry{entry(2, 1), entry(3, 1), entry(7, 1), entry(last-1, 1)}})
	putRecords(t, s, "a", "empty", api.Records{Next: 5})
	unchanged(t, f, func() {
		for _, id := range []uint32{0, 1, 4, 5, 6, 8, 1 << 31, last - 2, last} {
			entryAnswers(t, s, place{"a", "b"}, id, api.ErrMissing)
		}
		for _, id := range []uint32{0, 1, 4, 5, 6, last} {
			entryAnswers(t, s, place{"a", "empty"}, id, api.ErrMissing)
		}
	})
	for i, id := range []uint32{7, 2, last - 1, 3} {
		if e := rms.Set(s, "a", "b", id, []byte{9}); e != api.OK {
			t.Errorf("Set(%d): %d", id, e)
		}
		if b, e := rms.Get(s, "a", "b", id); e != api.OK || !bytes.Equal(b, []byte{9}) {
			t.Errorf("Get(%d): %v, %d", id, b, e)
		}
		if e := rms.Delete(s, "a", "b", id); e != api.OK {
			t.Errorf("Delete(%d): %d", id, e)
		}
		if r := open(t, s, "a", "b"); len(r.List) != 3-i || r.Version != uint32(2*i+2) || r.Next != last {
			t.Errorf("behind %d: %v", id, r)
		}
		entryAnswers(t, s, place{"a", "b"}, id, api.ErrMissing)
	}
}

// entryAnswers holds the calls of an entry against an error, with data that is too long, too.
func entryAnswers(t *testing.T, s *blob.Store, p place, id uint32, want api.Errno) {
	t.Helper()
	for _, n := range []int{0, 512, 513} {
		if e := rms.Set(s, p.suite, p.name, id, make([]byte, n)); e != want {
			t.Errorf("Set(%q, %d) of %d bytes: %d, want %d", p, id, n, e, want)
		}
	}
	if e := rms.Delete(s, p.suite, p.name, id); e != want {
		t.Errorf("Delete(%q, %d): %d, want %d", p, id, e, want)
	}
	if b, e := rms.Get(s, p.suite, p.name, id); b != nil || e != want {
		t.Errorf("Get(%q, %d): %v, %d, want %d", p, id, b, e, want)
	}
}

// P9.1: data of 0 to MaxRecord bytes, of any kind, and no more.
func TestDataLengths(t *testing.T) {
	s, f := roomy(t)
	create(t, s, "a", "b")
	for i, n := range []int{0, 1, 255, 256, 511, 512} {
		data := bytes.Repeat([]byte{byte(255 - i)}, n)
		add(t, s, "a", "b", string(data), uint32(i+1))
		if b, e := rms.Get(s, "a", "b", uint32(i+1)); e != api.OK || !bytes.Equal(b, data) {
			t.Errorf("Get of %d bytes: %d bytes, %d", n, len(b), e)
		}
	}
	before := open(t, s, "a", "b")
	unchanged(t, f, func() {
		for _, n := range []int{513, 514, 4096, 65535, 65536, 65536 + 10} {
			if id, e := rms.Add(s, "a", "b", make([]byte, n)); id != 0 || e != api.ErrLong {
				t.Errorf("Add of %d bytes: %d, %d", n, id, e)
			}
			if e := rms.Set(s, "a", "b", 3, make([]byte, n)); e != api.ErrLong {
				t.Errorf("Set of %d bytes: %d", n, e)
			}
		}
	})
	if r := open(t, s, "a", "b"); !same(r, before) {
		t.Errorf("%v became %v", before, r)
	}
	if e := rms.Set(s, "a", "b", 1, make([]byte, 512)); e != api.OK {
		t.Error(e)
	}
	if e := rms.Set(s, "a", "b", 6, nil); e != api.OK {
		t.Error(e)
	}
	add(t, s, "a", "b", "", 7)
}

// P9.1: MaxRecords entries, and no more; an entry of a full one can be set, and deleted.
func TestMaxRecords(t *testing.T) {
	s, f := roomy(t)
	create(t, s, "a", "b")
	for i := range 64 {
		add(t, s, "a", "b", "", uint32(i+1))
	}
	unchanged(t, f, func() {
		for _, n := range []int{0, 1, 513} {
			if id, e := rms.Add(s, "a", "b", make([]byte, n)); id != 0 || e != api.ErrLong {
				t.Errorf("Add of %d bytes: %d, %d", n, id, e)
			}
		}
	})
	if e := rms.Set(s, "a", "b", 64, []byte("full")); e != api.OK {
		t.Errorf("Set: %d", e)
	}
	if e := rms.Delete(s, "a", "b", 17); e != api.OK {
		t.Errorf("Delete: %d", e)
	}
	add(t, s, "a", "b", "again", 65)
	if id, e := rms.Add(s, "a", "b", nil); id != 0 || e != api.ErrLong {
		t.Errorf("Add: %d, %d", id, e)
	}
	if r := open(t, s, "a", "b"); r.Next != 66 || r.Version != 67 || len(r.List) != 64 || string(r.List[62].Data) != "full" || r.List[63].ID != 65 {
		t.Errorf("%v", r)
	}
}

// P9.1: where Next ends nothing is added; what is there can be set and deleted.
func TestLastNext(t *testing.T) {
	s, f := roomy(t)
	const last = math.MaxUint32
	putRecords(t, s, "a", "b", api.Records{Next: last - 1, List: []api.Entry{entry(5, 1)}})
	add(t, s, "a", "b", "last", last-1)
	if r := open(t, s, "a", "b"); r.Next != last || r.Version != 1 || len(r.List) != 2 || r.List[1].ID != last-1 {
		t.Errorf("%v", r)
	}
	unchanged(t, f, func() {
		if id, e := rms.Add(s, "a", "b", nil); id != 0 || e != api.ErrLong {
			t.Errorf("Add: %d, %d", id, e)
		}
	})
	if e := rms.Set(s, "a", "b", 5, []byte("set")); e != api.OK {
		t.Errorf("Set: %d", e)
	}
	for _, id := range []uint32{last - 1, 5} {
		if e := rms.Delete(s, "a", "b", id); e != api.OK {
			t.Errorf("Delete: %d", e)
		}
		if id, e := rms.Add(s, "a", "b", nil); id != 0 || e != api.ErrLong {
			t.Errorf("Add behind a Delete: %d, %d", id, e)
		}
	}
	if r := open(t, s, "a", "b"); !same(r, api.Records{Next: last, Version: 4}) {
		t.Errorf("%v", r)
	}
}

// P9.1: Version is 1 more behind each change, and stays where it ends.
func TestVersion(t *testing.T) {
	s, _ := roomy(t)
	const last = math.MaxUint32
	for _, version := range []uint32{0, 1, 255, 1<<31 - 1, last - 2, last - 1, last} {
		for kind := adding; kind <= deleting; kind++ {
			putRecords(t, s, "a", "b", api.Records{Next: 2, Version: version, List: []api.Entry{entry(1, 1)}})
			want := version
			for range 2 {
				if want < last {
					want++
				}
				if _, e := (step{kind: kind, place: place{"a", "b"}, id: 1, data: "\x01"}).do(s); e != api.OK {
					t.Fatal(e)
				}
				if r := open(t, s, "a", "b"); r.Version != want {
					t.Errorf("kind %d, from Version %d: %d, want %d", kind, version, r.Version, want)
				}
				if kind == deleting {
					break
				}
			}
		}
	}
}

// P9.1: what is there and is no record store answers ErrForm, ahead of all but the names; it stays, until it is dropped.
func TestBrokenStores(t *testing.T) {
	s, f := roomy(t)
	create(t, s, "a", "c")
	add(t, s, "a", "c", "stays", 1)
	for i, b := range broken() {
		put(t, s, "r/a/b", b)
		unchanged(t, f, func() { eachAnswers(t, s, place{"a", "b"}, api.ErrForm) })
		if got, ok := s.Get("r/a/b"); !ok || !bytes.Equal(got, b) {
			t.Errorf("blob %d: % x became % x", i, b, got)
		}
		if e := rms.Drop(s, "a", "b"); e != api.OK {
			t.Errorf("Drop of blob %d: %d", i, e)
		}
		if _, ok := s.Get("r/a/b"); ok {
			t.Errorf("blob %d is still there", i)
		}
		if i%7 == 0 {
			create(t, s, "a", "b")
		}
	}
	if got := s.Keys(""); !slices.Equal(got, []string{"r/a/c"}) && !slices.Equal(got, []string{"r/a/b", "r/a/c"}) {
		t.Errorf("%q", got)
	}
	if b, e := rms.Get(s, "a", "c", 1); e != api.OK || string(b) != "stays" {
		t.Errorf("%q, %d", b, e)
	}
}

// P9.1: a store that is dropped is gone, alone.
func TestDrop(t *testing.T) {
	s, f := roomy(t)
	for _, p := range []place{{"a", "b"}, {"a", "bb"}, {"ab", "b"}, {"b", "a"}} {
		create(t, s, p.suite, p.name)
		add(t, s, p.suite, p.name, p.suite+p.name, 1)
	}
	if e := rms.Drop(s, "a", "b"); e != api.OK {
		t.Fatal(e)
	}
	unchanged(t, f, func() { eachAnswers(t, s, place{"a", "b"}, api.ErrMissing) })
	for _, x := range []*blob.Store{s, mount(t, twin(t, f))} {
		if got := x.Keys(""); !slices.Equal(got, []string{"r/a/bb", "r/ab/b", "r/b/a"}) {
			t.Errorf("%q", got)
		}
	}
	// One that is made once more is a new one.
	create(t, s, "a", "b")
	add(t, s, "a", "b", "", 1)
	if b, e := rms.Get(s, "a", "bb", 1); e != api.OK || string(b) != "abb" {
		t.Errorf("%q, %d", b, e)
	}
}

// P9.1: each change is one commit of one change.
func TestOneCommitEach(t *testing.T) {
	s, f := roomy(t)
	p := place{"a", "b"}
	for i, x := range []step{
		{kind: opening, place: p}, {kind: adding, place: p, data: "1"}, {kind: adding, place: p, data: "2"}, {kind: setting, place: p, id: 1, data: "1"},
		{kind: setting, place: p, id: 2}, {kind: deleting, place: p, id: 1}, {kind: dropping, place: p},
	} {
		if _, e := x.do(s); e != api.OK {
			t.Fatalf("%v: %d", x, e)
		}
		if n, changes := commits(t, f); n != i+1 || changes != i+1 {
			t.Errorf("%v: %d commits of %d changes, not %d", x, n, changes, i+1)
		}
	}
}

// P9.1: a nil store has nothing, and nothing can be put there; nor in one that was never mounted.
func TestNilStore(t *testing.T) {
	for _, s := range []*blob.Store{nil, {}} {
		eachAnswers(t, s, place{"a", "b"}, api.ErrMissing)
		callAnswers(t, s, place{"a", "b"}, true, api.ErrDown)
		if got := rms.Names(s, "a"); len(got) != 0 {
			t.Errorf("Names: %q", got)
		}
	}
}

// P9.1: a store that is down still tells what it has; what it would have to commit is refused, behind all other errors.
func TestDownStore(t *testing.T) {
	s, f := roomy(t)
	create(t, s, "a", "b")
	add(t, s, "a", "b", "x", 1)
	for i := range 8 {
		create(t, s, "full", string(rune('a'+i)))
	}
	for range 64 {
		rms.Add(s, "full", "a", nil)
	}
	put(t, s, "r/a/none", nil)
	f.Fuse(0, api.Tear{})
	if id, e := rms.Add(s, "a", "b", []byte("y")); id != 0 || e != api.ErrDown {
		t.Fatalf("Add: %d, %d", id, e)
	}
	f.Reset()
	for _, x := range []struct {
		step
		want api.Errno
	}{
		{step{kind: opening, place: place{"a", "b"}}, api.OK},
		{step{kind: opening, place: place{"a", "new"}}, api.ErrDown},
		{step{kind: opening, place: place{"full", "i"}}, api.ErrLong},
		{step{kind: opening, place: place{"a", "A"}}, api.ErrName},
		{step{kind: opening, place: place{"a", "none"}}, api.ErrForm},
		{step{kind: adding, place: place{"a", "b"}}, api.ErrDown},
		{step{kind: adding, place: place{"a", "b"}, data: strings.Repeat("x", 513)}, api.ErrLong},
		{step{kind: adding, place: place{"full", "a"}}, api.ErrLong},
		{step{kind: adding, place: place{"a", "new"}}, api.ErrMissing},
		{step{kind: adding, place: place{"a", "none"}}, api.ErrForm},
		{step{kind: setting, place: place{"a", "b"}, id: 1}, api.ErrDown},
		{step{kind: setting, place: place{"a", "b"}, id: 2}, api.ErrMissing},
		{step{kind: setting, place: place{"a", "b"}, id: 1, data: strings.Repeat("x", 513)}, api.ErrLong},
		{step{kind: deleting, place: place{"a", "b"}, id: 1}, api.ErrDown},
		{step{kind: deleting, place: place{"a", "b"}, id: 2}, api.ErrMissing},
		{step{kind: dropping, place: place{"a", "b"}}, api.ErrDown},
		{step{kind: dropping, place: place{"a", "none"}}, api.ErrDown},
		{step{kind: dropping, place: place{"a", "new"}}, api.ErrMissing},
		{step{kind: dropping, place: place{"", "b"}}, api.ErrName},
	} {
		if id, e := x.do(s); id != 0 || e != x.want {
			t.Errorf("%v: %d, %d, want %d", x.step, id, e, x.want)
		}
	}
	if b, e := rms.Get(s, "a", "b", 1); e != api.OK || string(b) != "x" {
		t.Errorf("Get: %q, %d", b, e)
	}
	if r := open(t, s, "a", "b"); !same(r, api.Records{Next: 2, Version: 1, List: []api.Entry{{ID: 1, Data: []byte("x")}}}) {
		t.Errorf("%v", r)
	}
	if got := rms.Names(s, "full"); len(got) != 8 {
		t.Errorf("Names: %q", got)
	}
}

// P9.1: layer 8's ErrArg, where a record store's bytes are more than a blob's, and nothing is changed then.
func TestMoreThanABlob(t *testing.T) {
	s, f := roomy(t)
	create(t, s, "a", "b")
	for i := range 7 {
		add(t, s, "a", "b", strings.Repeat("x", 512), uint32(i+1))
	}
	// 10 bytes, 7 entries of 518, one of 460: 4096.
	p := place{"a", "b"}
	refused(t, s, f, step{kind: adding, place: p, data: strings.Repeat("y", 455)}, api.ErrArg)
	refused(t, s, f, step{kind: adding, place: p, data: strings.Repeat("y", 512)}, api.ErrArg)
	add(t, s, "a", "b", strings.Repeat("y", 454), 8)
	refused(t, s, f, step{kind: setting, place: p, id: 8, data: strings.Repeat("y", 455)}, api.ErrArg)
	refused(t, s, f, step{kind: adding, place: p}, api.ErrArg)
	if e := rms.Delete(s, "a", "b", 3); e != api.OK {
		t.Error(e)
	}
	add(t, s, "a", "b", strings.Repeat("z", 512), 9)
}

// refused holds a step that is refused: nothing that a later call could tell is changed.
func refused(t *testing.T, s *blob.Store, f *nor.Flash, x step, want api.Errno) {
	t.Helper()
	before := told(t, s)
	unchanged(t, f, func() {
		if id, e := x.do(s); id != 0 || e != want {
			t.Errorf("%v: %d, %d, want %d", x, id, e, want)
		}
	})
	check(t, s, before, x.suite)
	check(t, mount(t, twin(t, f)), before, x.suite)
}

// P9.1: layer 8's ErrLong, where a commit's room is more than half of a sector's.
func TestMoreThanASector(t *testing.T) {
	f := flash(t, 6, 64)
	s := mount(t, f)
	callAnswers(t, s, place{"a", "b"}, true, api.ErrLong)
	if len(s.Keys("")) != 0 {
		t.Errorf("%q", s.Keys(""))
	}
	// Half of what stands behind the header: 122, of which 32 are the records', 5 the key's, 10 the store's, 6 the entry's.
	f = flash(t, 6, 256)
	s = mount(t, f)
	create(t, s, "a", "b")
	p := place{"a", "b"}
	refused(t, s, f, step{kind: adding, place: p, data: strings.Repeat("x", 70)}, api.ErrLong)
	add(t, s, "a", "b", strings.Repeat("x", 69), 1)
	refused(t, s, f, step{kind: setting, place: p, id: 1, data: strings.Repeat("x", 70)}, api.ErrLong)
	refused(t, s, f, step{kind: adding, place: p}, api.ErrLong)
}

// P9.1: layer 8's ErrSpace: nothing is changed, and behind it what has room is done as if it hadn't been asked.
func TestNoRoom(t *testing.T) {
	f := flash(t, 4, 512)
	s := mount(t, f)
	p := place{"a", "b"}
	create(t, s, "a", "b")
	add(t, s, "a", "b", strings.Repeat("x", 20), 1)
	n := 0
	for s.Commit([]api.Change{{Key: "k" + string(rune('a'+n)), Blob: make([]byte, 60)}}) == api.OK {
		n++
	}
	long := strings.Repeat("y", 150)
	for _, x := range []step{{kind: adding, place: p, data: long}, {kind: setting, place: p, id: 1, data: long}} {
		refused(t, s, f, x, api.ErrSpace)
	}
	for i := range n {
		if e := s.Commit([]api.Change{{Del: true, Key: "k" + string(rune('a'+i))}}); e != api.OK && e != api.ErrSpace {
			t.Fatal(e)
		}
	}
	add(t, s, "a", "b", long, 2)
	if r := open(t, s, "a", "b"); r.Next != 3 || r.Version != 2 || len(r.List) != 2 {
		t.Errorf("%v", r)
	}
}

// P9.1: ErrSpace of each kind of step, of a flash that has no room for the least of them.
func TestNoRoomAtAll(t *testing.T) {
	for kind := range kinds {
		f := flash(t, 3, 512)
		s := mount(t, f)
		p := place{"a", "b"}
		create(t, s, "a", "b")
		add(t, s, "a", "b", "x", 1)
		key := byte('!')
		for n := 60; n >= 0; n-- {
			for s.Commit([]api.Change{{Key: string([]byte{key}), Blob: make([]byte, n)}}) == api.OK {
				key++
			}
		}
		x := step{kind: kind, place: p, id: 1, data: "y"}
		if kind == opening {
			x.name = "new"
		}
		refused(t, s, f, x, api.ErrSpace)
	}
}

// What is handed in is neither changed nor kept, its spare room neither.
func TestDataIsNotKept(t *testing.T) {
	s, f := roomy(t)
	create(t, s, "a", "b")
	memory := []byte("datadataspare")
	data := memory[:4]
	if id, e := rms.Add(s, "a", "b", data); id != 1 || e != api.OK {
		t.Fatal(id, e)
	}
	if e := rms.Set(s, "a", "b", 1, data); e != api.OK {
		t.Fatal(e)
	}
	if id, e := rms.Add(s, "a", "b", data); id != 2 || e != api.OK {
		t.Fatal(id, e)
	}
	if string(memory) != "datadataspare" {
		t.Errorf("%q", memory)
	}
	copy(data, "XXXX")
	want := api.Records{Next: 3, Version: 3, List: []api.Entry{{ID: 1, Data: []byte("data")}, {ID: 2, Data: []byte("data")}}}
	for _, x := range []*blob.Store{s, mount(t, twin(t, f))} {
		if r := open(t, x, "a", "b"); !same(r, want) {
			t.Errorf("%v", r)
		}
	}
}

// What is answered is the asker's.
func TestAnswersAreNew(t *testing.T) {
	s, _ := roomy(t)
	create(t, s, "a", "b")
	add(t, s, "a", "b", "one", 1)
	add(t, s, "a", "b", "two", 2)
	want := api.Records{Next: 3, Version: 2, List: []api.Entry{{ID: 1, Data: []byte("one")}, {ID: 2, Data: []byte("two")}}}
	for range 2 {
		r, other := open(t, s, "a", "b"), open(t, s, "a", "b")
		copy(r.List[0].Data, "XXX")
		_ = append(r.List[0].Data, "XXXXXXXXXXXX"...)
		if string(r.List[1].Data) != "two" || !same(other, want) {
			t.Errorf("%v, %v", r, other)
		}
		r.List[1] = api.Entry{ID: 9}
		b, _ := rms.Get(s, "a", "b", 2)
		_ = append(b, "XXXXXXXXXXXX"...)
		copy(b, "XXX")
		if r := open(t, s, "a", "b"); !same(r, want) {
			t.Errorf("%v", r)
		}
		if b, e := rms.Get(s, "a", "b", 2); e != api.OK || string(b) != "two" {
			t.Errorf("%q, %d", b, e)
		}
	}
}
