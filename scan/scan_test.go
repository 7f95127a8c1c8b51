package scan_test

import (
	"bytes"
	"testing"

	"carpetbag/api"
	"carpetbag/crc"
	"carpetbag/nor"
	"carpetbag/page"
	"carpetbag/rec"
	"carpetbag/scan"
)

// P6.1: Scan of what has no records.

func TestExample(t *testing.T) {
	b := joined(head(), same(255, 52))
	found, next, closed := scan.Scan(b)
	if len(found) != 0 || next != 12 || closed {
		t.Error(found, next, closed)
	}
}

func TestScanOfLessThanAHeader(t *testing.T) {
	answers(t, nil, told{closed: true})
	long := begun().whole(records()[0]).bytes
	for n := range headSize {
		wanted := told{next: n, closed: true}
		answers(t, same(255, n), wanted)
		answers(t, same(0, n), wanted)
		// The spare room isn't part of what is handed in.
		answers(t, long[:n], wanted)
		answers(t, long[:n:n], wanted)
	}
}

func TestScanOfAHeaderAlone(t *testing.T) {
	wanted := told{next: 12}
	answers(t, head(), wanted)
	answers(t, same(0, 12), wanted)
	answers(t, same(255, 12), wanted)
	// The spare room isn't part of what is handed in.
	answers(t, begun().whole(records()[0]).bytes[:12], wanted)
}

func TestScanOfThirteenBytes(t *testing.T) {
	for x := range 255 {
		answers(t, append(head(), byte(x)), told{next: 13, closed: true})
	}
	answers(t, append(head(), 255), told{next: 12})
}

func TestScanOfBlankBytes(t *testing.T) {
	for n := range 300 {
		begun().blank(n).is(t)
		answers(t, same(255, 12+n), told{next: 12})
	}
	begun().blank(api.MaxSector - 12).is(t)
}

func TestScanOfAStrayByteBehindBlankOnes(t *testing.T) {
	for n := range 120 {
		for _, x := range []byte{0, 1, 2, 3, 'C', 0x7f, 0xfe} {
			begun().stray(append(same(255, n), x)).blank(7).is(t)
			begun().whole(records()[0]).stray(append(same(255, n), x)).is(t)
		}
	}
	for _, n := range []int{1, 4000, api.MaxSector - 13} {
		b := joined(head(), same(255, api.MaxSector-12))
		b[12+n] = 0xfe
		answers(t, b, told{next: api.MaxSector, closed: true})
	}
}

func TestScanOfARecordBehindBlankBytes(t *testing.T) {
	for n := range 40 {
		for _, r := range records() {
			begun().stray(same(255, n+1)).whole(r).blank(9).is(t)
			begun().whole(r).stray(same(255, n+1)).whole(r).is(t)
		}
	}
}

// P6.1: Scan of records.

// written is a sector's bytes behind the header, written out: a put, a delete, a put without its sum of 32 bits, a commit that isn't whole, one that is, and three bytes 255.
func written() []byte {
	return []byte{
		1, 0, 0, 0, 1, 1, 0, 2, 0, 0x49, 0xd6, 'a', 1, 2, 0xa2, 0xfb, 0xac, 0xfd, 0,
		2, 1, 2, 3, 4, 3, 0, 0, 0, 0x25, 0x1f, 'k', 'e', 'y', 0xef, 0xf4, 0xc2, 0x29, 0,
		1, 0, 0, 0, 2, 1, 0, 0, 0, 0xc1, 0x66, 0xff, 0x4d, 0x47, 0xf5, 0x6b, 0,
		3, 255, 255, 255, 255, 0, 0, 0, 16, 0x18, 0x29, 0x80, 0xf1, 0xcd, 0x7f, 255,
		3, 0, 0, 0, 1, 0, 0, 0, 0, 0x9f, 0x67, 0xe8, 0xdf, 0x02, 0x8e, 0,
		255, 255, 255,
	}
}

func TestScanWrittenOut(t *testing.T) {
	found := []api.Found{
		{At: 12, Rec: api.Rec{Kind: 1, Txn: 1, Key: "a", Blob: []byte{1, 2}}},
		{At: 31, Rec: api.Rec{Kind: 2, Txn: 0x01020304, Key: "key"}},
		{At: 83, Rec: api.Rec{Kind: 3, Txn: 1}},
	}
	b := append(head(), written()...)
	answers(t, b, told{found, 99, true})
	answers(t, b[:99], told{found, 99, true})
	answers(t, b[:98], told{found[:2], 98, true})
	answers(t, b[:83], told{found[:2], 83, true})
	answers(t, b[:50], told{found[:2], 50, false})
	b[100] = 254
	answers(t, b, told{found, 102, true})
	b[12+9] = 0x48
	answers(t, b, told{nil, 102, true})
}

func TestScanOfOneRecord(t *testing.T) {
	for _, r := range records() {
		begun().whole(r).is(t)
		for _, n := range []int{1, 2, 10, 11, 12, 100} {
			begun().whole(r).blank(n).is(t)
			begun().whole(r).stray(same(0, n)).is(t)
			begun().whole(r).stray(same(4, n)).blank(n).is(t)
			begun().whole(r).stray(append(same(255, n), 0)).is(t)
		}
		for x := range 255 {
			begun().whole(r).stray([]byte{byte(x)}).is(t)
		}
	}
}

func TestScanOfAllRecords(t *testing.T) {
	w := begun()
	for _, r := range records() {
		w.whole(r).is(t)
	}
	w.blank(3).is(t)
	for _, r := range records() {
		w = begun().unwhole(laid(r, 255))
		for _, behind := range records() {
			w.whole(behind).is(t)
		}
		w.blank(30).is(t)
	}
}

func TestScanOfAHeaderOfAnyBytes(t *testing.T) {
	d := dice(2)
	w := begun().whole(records()[0]).unwhole(unsummed(records()[0])).whole(records()[6]).blank(5)
	for at := range headSize {
		for x := range 256 {
			b := joined(w.bytes)
			b[at] = byte(x)
			answers(t, b, w.told)
		}
	}
	for range 300 {
		copy(w.bytes, thrown(d, headSize))
		w.is(t)
	}
	copy(w.bytes, same(255, headSize))
	w.is(t)
	// A record in the header's place is none.
	copy(w.bytes[:headSize], whole(records()[12]))
	w.is(t)
}

// pieces are what a row may be made of.
func pieces() []func(*row) {
	put := api.Rec{Kind: 1, Txn: 1, Key: "k", Blob: []byte{255, 0}}
	del := api.Rec{Kind: 2, Txn: 2, Key: "k"}
	commit := api.Rec{Kind: 3, Txn: 1, Count: 1}
	return []func(*row){
		func(w *row) { w.whole(put) },
		func(w *row) { w.whole(del) },
		func(w *row) { w.whole(commit) },
		func(w *row) { w.unwhole(laid(put, 255)) },
		func(w *row) { w.unwhole(laid(commit, 1)) },
		func(w *row) { w.unwhole(unsummed(del)) },
		func(w *row) { w.stray([]byte{255}) },
		func(w *row) { w.stray(same(0, 20)) },
	}
}

func TestScanOfEachRow(t *testing.T) {
	list := pieces()
	for n := range 6 {
		rows := 1
		for range n {
			rows *= len(list)
		}
		for which := range rows {
			w := begun()
			for range n {
				list[which%len(list)](w)
				which /= len(list)
			}
			w.ended(t)
		}
	}
}

// ended holds Scan against a row with nothing, with 255 and with another byte behind it.
func (w *row) ended(t *testing.T) {
	t.Helper()
	if !w.lost || w.bytes[len(w.bytes)-1] != 255 {
		w.is(t)
		w.blank(21).is(t)
	}
	w.stray([]byte{254}).is(t)
}

// P6.1: Scan of what isn't whole.

func TestScanOfEachLastByte(t *testing.T) {
	behind := records()[0]
	for _, r := range records() {
		for last := 1; last < 256; last++ {
			begun().unwhole(laid(r, byte(last))).is(t)
			begun().unwhole(laid(r, byte(last))).blank(40).is(t)
			begun().whole(behind).unwhole(laid(r, byte(last))).whole(behind).whole(r).blank(4).is(t)
		}
	}
}

func TestScanOfTurnedBits(t *testing.T) {
	behind := records()[6]
	for _, r := range records() {
		if len(r.Blob) > 50 {
			continue
		}
		for bit := range 8 * (rec.Size(r) - 1) {
			b := whole(r)
			b[bit/8] ^= 1 << (bit % 8)
			w := begun().whole(behind)
			if bit < 8*11 {
				w.stray(b)
			} else {
				w.unwhole(b)
			}
			w.whole(behind).is(t)
			w.blank(30).is(t)
		}
	}
}

func TestScanOfARecordThatTheSectorCuts(t *testing.T) {
	ahead := records()[0]
	for _, r := range records() {
		b := begun().whole(ahead).whole(r).bytes
		found := []api.Found{{At: 12, Rec: ahead}}
		at := 12 + rec.Size(ahead)
		for n := at; n < len(b); n++ {
			wanted := told{found, n, n > at}
			answers(t, b[:n:n], wanted)
			// The spare room isn't part of what is handed in.
			answers(t, b[:n], wanted)
		}
	}
}

func TestScanOfARecordThatWasProgrammedInPart(t *testing.T) {
	behind := records()[6]
	for _, r := range records() {
		full := whole(r)
		for n := 1; n < len(full); n++ {
			b := joined(full[:n], same(255, len(full)-n))
			w, more := begun().whole(behind), begun().whole(behind)
			if bytes.Equal(b[:11], full[:11]) {
				w.unwhole(b)
				more.unwhole(b)
			} else {
				w.stray(b)
				more.stray(b)
			}
			w.is(t)
			w.blank(50).is(t)
			more.whole(behind).is(t)
			more.blank(50).is(t)
		}
	}
}

func TestScanOfARecordThatIsLongerThanTheSector(t *testing.T) {
	long := whole(api.Rec{Kind: 1, Txn: 1, Key: "k", Blob: make([]byte, api.MaxBlob)})
	ahead := records()[0]
	for _, n := range []int{11, 12, 300, len(long) - 1} {
		begun().whole(ahead).stray(long[:n]).is(t)
		begun().whole(ahead).stray(long[:11]).lay(same(255, n-11)).is(t)
	}
	begun().whole(ahead).unwhole(joined(long[:11], same(255, len(long)-11))).is(t)
	begun().whole(ahead).unwhole(joined(long[:11], same(255, len(long)-11))).whole(ahead).blank(1).is(t)
}

func TestScanOfRecordsThatMayNotBe(t *testing.T) {
	ahead := records()[0]
	for _, nine := range [][]byte{
		{0, 0, 0, 0, 1, 1, 0, 0, 0}, {4, 0, 0, 0, 1, 0, 0, 0, 0}, {254, 0, 0, 0, 1, 0, 0, 0, 0}, {255, 0, 0, 0, 1, 0, 0, 0, 0},
		{1, 0, 0, 0, 0, 1, 0, 0, 0}, {3, 0, 0, 0, 0, 0, 0, 0, 0}, {1, 0, 0, 0, 1, 0, 0, 0, 0}, {1, 0, 0, 0, 1, 65, 0, 0, 0},
		{2, 0, 0, 0, 1, 1, 0, 1, 0}, {3, 0, 0, 0, 1, 0, 0, 0, 17}, {1, 0, 0, 0, 1, 1, 0, 0, 1},
	} {
		sum := crc.Sum16(nine)
		b := append(joined(nine), byte(sum>>8), byte(sum))
		b = append(b, make([]byte, int(nine[5])+int(nine[7]))...)
		all := crc.Sum32(b)
		b = append(b, byte(all>>24), byte(all>>16), byte(all>>8), byte(all), 0)
		begun().whole(ahead).stray(b).whole(ahead).blank(20).is(t)
		begun().stray(b).is(t)
	}
}

// P6.1: Scan of all bytes.

func TestScanAgainstModel(t *testing.T) {
	d := dice(3)
	list := records()
	for range 30000 {
		b := head()
		for range d.IntN(6) {
			piece := laid(list[d.IntN(len(list))], byte(d.IntN(2)*d.IntN(256)))
			if d.IntN(6) == 0 {
				piece[d.IntN(len(piece))] ^= 1 << d.IntN(8)
			}
			b = append(b, piece...)
		}
		switch d.IntN(6) {
		case 0:
			b = append(b, thrown(d, d.IntN(40))...)
		case 1:
			b = b[:d.IntN(len(b)+1)]
		case 2:
			b = append(b[:d.IntN(len(b)+1)], same(255, d.IntN(40))...)
		default:
			b = append(b, same(255, d.IntN(40))...)
		}
		answers(t, b, scanned(b))
	}
}

// P6.2: of records that were laid one behind the other, whole, all are told.

func TestScanOfWhatWasLaid(t *testing.T) {
	d := dice(4)
	list := records()
	for range 2000 {
		w := begun()
		for range d.IntN(30) {
			w.whole(list[d.IntN(len(list))])
		}
		w.is(t)
		w.blank(d.IntN(70)).is(t)
		if w.told.closed {
			t.Fatal("the row isn't one of whole records alone")
		}
	}
}

func TestScanOfAFullSector(t *testing.T) {
	w := begun()
	for txn := uint32(1); len(w.bytes)+16 <= api.MaxSector; txn++ {
		w.whole(api.Rec{Kind: 3, Txn: txn, Count: int(txn % 17)})
	}
	if len(w.told.found) != 4095 || w.told.next != 65532 || w.told.closed {
		t.Fatal(len(w.told.found), w.told.next, w.told.closed)
	}
	w.is(t)
	w.blank(4).is(t)
	full := begun().whole(api.Rec{Kind: 2, Txn: 1, Key: string(same('k', 36))})
	if len(full.bytes) != api.MinSector {
		t.Fatal(len(full.bytes))
	}
	full.is(t)
}

func TestScanOfMoreThanASector(t *testing.T) {
	w := begun()
	for range 50 {
		w.whole(api.Rec{Kind: 1, Txn: 1, Key: "k", Blob: same(255, api.MaxBlob)})
	}
	w.is(t)
	w.blank(api.MaxSector).is(t)
	w.unwhole(laid(records()[0], 255))
	answers(t, w.bytes, told{w.told.found, len(w.bytes), true})
}

// Records that are laid on a flash, the last byte by an act of its own, are told, at whatever act it goes down: all that are whole, and no other.
func TestScanOfWhatWasLaidOnAFlash(t *testing.T) {
	list := []api.Rec{records()[0], records()[6], records()[12]}
	for fuse := range 2*len(list) + 1 {
		for keep := range 20 {
			for _, mask := range []byte{0, 1, 0x80, 0x5a, 0xfe, 255} {
				goesDown(t, list, fuse, api.Tear{Keep: keep, Mask: mask})
			}
		}
	}
}

// goesDown lays records on a flash until it goes down, and holds Scan against what was done.
func goesDown(t *testing.T, list []api.Rec, fuse int, tear api.Tear) {
	t.Helper()
	f, _ := nor.New(api.Geometry{Sectors: 2, Size: 128, Limit: 1})
	if e := page.Open(f, 1, 1); e != api.OK {
		t.Fatal(e)
	}
	f.Fuse(fuse, tear)
	at, done := 12, []api.Found{}
	for _, r := range list {
		b := whole(r)
		last := len(b) - 1
		if f.Program(128+at, b[:last]) != api.OK {
			break
		}
		e := f.Program(128+at+last, b[last:])
		// A tear may do the act whole.
		if e != api.OK && tear.Keep%2 == 0 && tear.Mask != 255 {
			break
		}
		done = append(done, api.Found{At: at, Rec: r})
		at += len(b)
		if e != api.OK {
			break
		}
	}
	f.Reset()
	b, _ := f.Read(128, 128)
	found, next, closed := scan.Scan(b)
	if !sameFound(found, done) || next < at || fuse == 2*len(list) && closed {
		t.Fatalf("down at %d by %v: %v, %d, %v, not %v, from %d on", fuse, tear, found, next, closed, done, at)
	}
	if !sameFound(found, scanned(b).found) || next != scanned(b).next || closed != scanned(b).closed {
		t.Fatalf("down at %d by %v: %v, %d, %v, not %v", fuse, tear, found, next, closed, scanned(b))
	}
}

// R6: what is handed in is neither changed nor kept.

func TestScanChangesAndKeepsNothing(t *testing.T) {
	w := begun().whole(records()[0]).whole(records()[5]).blank(3)
	spare := append(joined(w.bytes), "and more"...)
	ahead := joined(spare)
	for n := range spare {
		scan.Scan(spare[:n])
	}
	a, _, _ := scan.Scan(spare[:len(w.bytes)])
	b, _, _ := scan.Scan(spare[:len(w.bytes)])
	for i := range a {
		_ = append(a[i].Rec.Blob[:0], same(9, cap(a[i].Rec.Blob))...)
		if i+1 < len(a) && !sameFound(a[i+1:], w.told.found[i+1:]) {
			t.Fatal("two records of an answer share memory")
		}
	}
	clear(a)
	if !bytes.Equal(spare, ahead) || !sameFound(b, w.told.found) {
		t.Fatal("an answer shares memory with the bytes, or with another answer, or the bytes changed")
	}
	clear(spare)
	if !sameFound(b, w.told.found) {
		t.Fatal("an answer shares memory with the bytes")
	}
}
