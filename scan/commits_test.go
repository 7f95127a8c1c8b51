package scan_test

import (
	"math"
	"testing"

	"carpetbag/api"
	"carpetbag/scan"
)

// counted are, as the chapter's words go, the records of a list that count.
func counted(l []api.Found) []api.Found {
	var list []api.Found
	for _, f := range l {
		if f.Rec.Kind != 3 && counts(l, f.Rec.Txn) {
			list = append(list, f)
		}
	}
	return list
}

// counts asks whether there is, behind all others of a Txn, a commit that tells how many these are.
func counts(l []api.Found, txn uint32) bool {
	changes, last := 0, -1
	for i, f := range l {
		if f.Rec.Txn == txn && f.Rec.Kind != 3 {
			changes++
			last = i
		}
	}
	for _, f := range l[last+1:] {
		if f.Rec.Txn == txn && f.Rec.Kind == 3 && f.Rec.Count == changes {
			return true
		}
	}
	return false
}

// put, del, other and commit are records of a Txn.
func put(txn uint32) api.Rec             { return api.Rec{Kind: 1, Txn: txn, Key: "p", Blob: []byte{7}} }
func del(txn uint32) api.Rec             { return api.Rec{Kind: 2, Txn: txn, Key: "d"} }
func other(txn uint32, kind int) api.Rec { return api.Rec{Kind: kind, Txn: txn} }
func commit(txn uint32, n int) api.Rec   { return api.Rec{Kind: 3, Txn: txn, Count: n} }

// placed are records, each with its place.
func placed(l ...api.Rec) []api.Found {
	var list []api.Found
	for i, r := range l {
		list = append(list, api.Found{At: 12 + 20*i, Rec: r})
	}
	return list
}

// commits holds what Commits answers against those by these places in the list.
func commits(t *testing.T, l []api.Rec, places ...int) {
	t.Helper()
	list := placed(l...)
	var wanted []api.Found
	for _, i := range places {
		wanted = append(wanted, list[i])
	}
	tells(t, list, wanted)
	if !sameFound(counted(list), wanted) {
		t.Fatalf("the model tells %v of %v, not %v", counted(list), list, wanted)
	}
}

// tells holds what Commits answers against what is wanted.
func tells(t *testing.T, l, wanted []api.Found) {
	t.Helper()
	if got := scan.Commits(l); !sameFound(got, wanted) {
		t.Fatalf("Commits(%v): %v, not %v", l, got, wanted)
	}
}

// P6.1: Commits.

func TestCommitsOfNone(t *testing.T) {
	tells(t, nil, nil)
	tells(t, []api.Found{}, nil)
	// The spare room isn't part of what is handed in.
	tells(t, placed(put(1), commit(1, 1))[:0], nil)
	tells(t, placed(put(1), commit(1, 1))[:1], nil)
}

func TestCommitsByCount(t *testing.T) {
	for n := range 20 {
		var l []api.Rec
		var all []int
		for i := range n {
			l = append(l, []api.Rec{put(9), del(9)}[i%2])
			all = append(all, i)
		}
		for count := -2; count <= 25; count++ {
			if count == n {
				commits(t, append(l[:n:n], commit(9, count)), all...)
				continue
			}
			commits(t, append(l[:n:n], commit(9, count)))
		}
	}
}

func TestCommitsAheadOfTheirChanges(t *testing.T) {
	commits(t, []api.Rec{commit(1, 1), put(1)})
	commits(t, []api.Rec{commit(1, 0), put(1)})
	commits(t, []api.Rec{commit(1, 2), put(1), del(1)})
	commits(t, []api.Rec{put(1), commit(1, 2), put(1)})
	commits(t, []api.Rec{put(1), commit(1, 1), put(1)})
	commits(t, []api.Rec{commit(1, 1), put(1), commit(1, 1)}, 1)
}

func TestCommitsOfTwoTxns(t *testing.T) {
	commits(t, []api.Rec{put(1), put(2), commit(1, 1), commit(2, 1)}, 0, 1)
	commits(t, []api.Rec{put(2), put(1), commit(1, 1), commit(2, 1)}, 0, 1)
	commits(t, []api.Rec{put(1), put(2), del(1), commit(2, 1), del(2), commit(1, 2)}, 0, 2)
	commits(t, []api.Rec{put(1), put(2), del(1), del(2), commit(1, 2), commit(2, 2)}, 0, 1, 2, 3)
	commits(t, []api.Rec{put(1), put(2), commit(2, 2)})
	commits(t, []api.Rec{put(1), commit(2, 1)})
	commits(t, []api.Rec{put(1), del(1), put(2), commit(1, 1), commit(2, 2)})
	// A Txn is a number of 32 bits.
	commits(t, []api.Rec{put(0), put(1 << 31), put(math.MaxUint32), commit(math.MaxUint32, 1), commit(0, 1)}, 0, 2)
	commits(t, []api.Rec{put(1), put(257), put(65537), commit(1, 1)}, 0)
}

func TestCommitsOfOneTxnTwice(t *testing.T) {
	commits(t, []api.Rec{put(1), commit(1, 1), commit(1, 2)}, 0)
	commits(t, []api.Rec{put(1), commit(1, 2), commit(1, 1)}, 0)
	commits(t, []api.Rec{put(1), commit(1, 1), commit(1, 1)}, 0)
	commits(t, []api.Rec{put(1), commit(1, 0), commit(1, 2)})
	commits(t, []api.Rec{put(1), commit(1, 1), del(1), commit(1, 1)})
	commits(t, []api.Rec{put(1), commit(1, 1), del(1), commit(1, 2)}, 0, 2)
	commits(t, []api.Rec{put(1), commit(1, 2), del(1), commit(1, 1)})
}

func TestCommitsWithoutACommit(t *testing.T) {
	commits(t, []api.Rec{put(1)})
	commits(t, []api.Rec{put(1), del(1), put(1)})
	commits(t, []api.Rec{put(1), put(2), commit(2, 1)}, 1)
	commits(t, []api.Rec{commit(1, 0)})
	commits(t, []api.Rec{commit(1, 1), commit(2, 0), commit(1, 0)})
}

func TestCommitsOfOtherKinds(t *testing.T) {
	for _, kind := range []int{0, 4, 5, -1, -2, -3, 255, 256, 257, 259, 1<<32 + 3, math.MinInt, math.MinInt + 3, math.MaxInt} {
		commits(t, []api.Rec{other(1, kind), commit(1, 1)}, 0)
		commits(t, []api.Rec{other(1, kind), commit(1, 0)})
		commits(t, []api.Rec{put(1), other(1, kind), commit(1, 2)}, 0, 1)
		commits(t, []api.Rec{put(1), other(1, kind), commit(1, 1)})
		commits(t, []api.Rec{put(1), commit(1, 1), other(1, kind)})
		// What is no commit tells nothing.
		r := other(1, kind)
		r.Count = 1
		commits(t, []api.Rec{put(1), r})
		r.Count = 2
		commits(t, []api.Rec{put(1), r})
	}
}

func TestCommitsOfOddCounts(t *testing.T) {
	for _, n := range []int{-1, math.MinInt, math.MinInt + 1, math.MaxInt, 1 << 32, 1<<32 + 1, 257, 1<<16 + 1, 17} {
		commits(t, []api.Rec{put(1), commit(1, n)})
		commits(t, []api.Rec{put(1), commit(1, n), commit(1, 1), commit(1, n)}, 0)
		commits(t, []api.Rec{commit(1, n)})
		// A change's own Count tells nothing, and is answered as it is.
		r := put(1)
		r.Count = n
		commits(t, []api.Rec{r, commit(1, 1)}, 0)
	}
	r := put(1)
	r.Count = 1
	commits(t, []api.Rec{r})
}

func TestCommitsAreToldAsTheyStand(t *testing.T) {
	// What stands behind another is told by the list alone, and places and texts are answered as they are.
	l := []api.Found{
		{At: 900, Rec: api.Rec{Kind: 1, Txn: 1, Key: "", Blob: same(3, 5000), Count: -4}},
		{At: -7, Rec: api.Rec{Kind: 2, Txn: 1, Key: string(same('k', 500)), Blob: []byte{1}}},
		{At: math.MaxInt, Rec: api.Rec{Kind: 77, Txn: 1, Key: "\xff", Blob: []byte{}}},
		{At: 900, Rec: api.Rec{Kind: 1, Txn: 1, Key: "again"}},
		{At: math.MinInt, Rec: api.Rec{Kind: 3, Txn: 1, Key: "odd", Blob: []byte{5}, Count: 4}},
	}
	tells(t, l, l[:4])
	tells(t, l[:4], nil)
}

func TestCommitsOfEachList(t *testing.T) {
	alphabet := []api.Rec{put(1), del(2), other(1, 4), commit(1, 1), commit(1, 2), commit(2, 1), commit(2, 0)}
	for n := range 7 {
		lists := 1
		for range n {
			lists *= len(alphabet)
		}
		for which := range lists {
			l := make([]api.Found, n)
			for i := range l {
				l[i] = api.Found{At: i, Rec: alphabet[which%len(alphabet)]}
				which /= len(alphabet)
			}
			tells(t, l, counted(l))
		}
	}
}

func TestCommitsAgainstModel(t *testing.T) {
	d := dice(5)
	told := 0
	for range 20000 {
		var l []api.Rec
		for range d.IntN(40) {
			txn := uint32(d.IntN(6))
			switch d.IntN(4) {
			case 0:
				l = append(l, commit(txn, d.IntN(6)-1))
			case 1:
				l = append(l, other(txn, d.IntN(9)-2))
			case 2:
				l = append(l, del(txn))
			default:
				l = append(l, put(txn))
			}
		}
		list := placed(l...)
		tells(t, list, counted(list))
		told += len(counted(list))
	}
	if told < 1000 {
		t.Fatal("the lists tell too little:", told)
	}
}

func TestCommitsOfALongList(t *testing.T) {
	const txns = 60000
	var l, wanted []api.Found
	for txn := range uint32(txns) {
		l = append(l, placed(put(txn), put(0))...)
	}
	for txn := range uint32(txns) {
		l = append(l, placed(commit(txn, 1))...)
		if txn > 0 {
			wanted = append(wanted, l[2*txn])
		}
	}
	tells(t, l, wanted)
	l = append(l, placed(commit(0, txns+1))...)
	tells(t, l, l[:2*txns])
}

func TestCommitsOfScan(t *testing.T) {
	w := begun().whole(put(1)).whole(put(2)).unwhole(laid(put(1), 255)).whole(del(1)).whole(commit(1, 2)).blank(9)
	found, _, _ := scan.Scan(w.bytes)
	tells(t, found, []api.Found{w.told.found[0], w.told.found[2]})
}

// R6: what is handed in is neither changed nor kept.

func TestCommitsChangeAndKeepNothing(t *testing.T) {
	spare := []byte("0123456789")
	list := func() []api.Found {
		return placed(
			api.Rec{Kind: 1, Txn: 1, Key: "a", Blob: spare[:4]},
			api.Rec{Kind: 2, Txn: 1, Key: "b", Blob: spare[:4]},
			api.Rec{Kind: 9, Txn: 1, Key: "c", Blob: spare[2:6]},
			commit(1, 3),
			put(2),
		)
	}
	l := list()
	a := scan.Commits(l[:4])
	b := scan.Commits(l[:4])
	if string(spare) != "0123456789" || !sameFound(l, list()) {
		t.Fatal("what was handed in changed")
	}
	for i := range a {
		_ = append(a[i].Rec.Blob[:0], same(9, cap(a[i].Rec.Blob))...)
		if i+1 < len(a) && !sameFound(a[i+1:], l[i+1:3]) {
			t.Fatal("two records of an answer share memory")
		}
	}
	clear(a)
	if string(spare) != "0123456789" || !sameFound(l, list()) {
		t.Fatal("an answer shares memory with the list that was handed in")
	}
	wanted := list()[:3]
	if !sameFound(b, wanted) {
		t.Fatal("two answers share memory")
	}
	clear(l)
	copy(spare, "----------")
	if string(b[0].Rec.Blob) != "0123" || string(b[1].Rec.Blob) != "0123" || string(b[2].Rec.Blob) != "2345" || b[2].Rec.Key != "c" {
		t.Fatal("an answer shares memory with the list that was handed in")
	}
}
