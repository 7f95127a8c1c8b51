package rec_test

import (
	"bytes"
	"testing"

	"carpetbag/api"
	"carpetbag/rec"
)

// P5.2: what is made is parsed.

func TestWhatIsMadeIsParsed(t *testing.T) {
	for _, r := range good() {
		b, e := rec.Bytes(r)
		if e != api.OK {
			t.Fatalf("Bytes(%v): %d", r, e)
		}
		size := rec.Size(r)
		answers(t, append(b, 0), told{r, size, true, api.OK})
		answers(t, append(b, 255), told{r, size, false, api.OK})
		for _, behind := range [][]byte{{0}, {255}, same(255, 99), same(0, 99), append(b, 0)} {
			answers(t, joined(b, []byte{0}, behind), told{r, size, true, api.OK})
			answers(t, joined(b, []byte{255}, behind), told{r, size, false, api.OK})
		}
	}
}

func TestParseWrittenOut(t *testing.T) {
	for _, x := range written() {
		answers(t, append(x.bytes, 0), told{x.rec, len(x.bytes) + 1, true, api.OK})
		answers(t, append(x.bytes, 255), told{x.rec, len(x.bytes) + 1, false, api.OK})
	}
}

func TestParseOfEachLastByte(t *testing.T) {
	for _, r := range good()[:60] {
		b := append(made(r), 0)
		for last := range 256 {
			b[len(b)-1] = byte(last)
			answers(t, b, told{r, len(b), last == 0, api.OK})
		}
	}
}

func TestParseOfARow(t *testing.T) {
	var flash []byte
	for _, r := range good() {
		flash = append(append(flash, made(r)...), 0)
	}
	at := 0
	for _, r := range good() {
		size := len(made(r)) + 1
		answers(t, flash[at:], told{r, size, true, api.OK})
		at += size
	}
	refused(t, flash[at:], api.ErrMissing)
}

// P5.1: what Parse refuses.

func TestParseOfNothing(t *testing.T) {
	refused(t, nil, api.ErrMissing)
	refused(t, []byte{}, api.ErrMissing)
	// The spare room isn't part of what is handed in.
	refused(t, append(made(good()[0]), 0)[:0], api.ErrMissing)
}

func TestParseOfAFirstByte255(t *testing.T) {
	d := dice(7)
	for n := 1; n < 120; n++ {
		refused(t, same(255, n), api.ErrMissing)
		refused(t, append([]byte{255}, d.bytes(n)...), api.ErrMissing)
		refused(t, append([]byte{255}, same(0, n)...), api.ErrMissing)
	}
	// With right sums it is none, either.
	head := lay(fields{255, 1, 1, 0, 0}).summed()
	refused(t, head, api.ErrMissing)
	refused(t, append(closed(append(head, 'k')), 0), api.ErrMissing)
}

func TestParseOfEachFirstByte(t *testing.T) {
	for x := range 255 {
		for n := range 10 {
			refused(t, append([]byte{byte(x)}, same(255, n)...), api.ErrShort)
			refused(t, append([]byte{byte(x)}, same(0, n)...), api.ErrShort)
		}
	}
}

func TestParseOfEachLength(t *testing.T) {
	for _, r := range good() {
		if len(r.Blob) > 300 {
			continue
		}
		b := append(joined(made(r), []byte{0}), same(0, 20)...)
		size := rec.Size(r)
		for n := 1; n < len(b); n++ {
			wanted := told{e: api.ErrShort}
			if n >= size {
				wanted = told{r, size, true, api.OK}
			}
			answers(t, b[:n:n], wanted)
			// The spare room isn't part of what is handed in.
			answers(t, b[:n], wanted)
		}
	}
}

func TestParseOfTenElevenAndTwelveBytes(t *testing.T) {
	head := lay(fields{3, 1, 0, 0, 0}).summed()
	refused(t, head[:10], api.ErrShort)
	refused(t, head, api.ErrShort)
	refused(t, append(head, 0), api.ErrShort)
	wrong := joined(head)
	wrong[10]++
	refused(t, wrong[:10], api.ErrShort) // ahead of the sum
	refused(t, wrong, api.ErrSum)
	refused(t, append(wrong, 0), api.ErrSum)
	head = lay(fields{4, 1, 0, 0, 0}).summed()
	refused(t, head[:10], api.ErrShort) // ahead of the form
	refused(t, head, api.ErrForm)       // ahead of the end
	refused(t, append(head, 0), api.ErrForm)
}

func TestParseOfEachSumOf16Bits(t *testing.T) {
	for _, x := range written()[:3] {
		b := append(joined(x.bytes), 0)
		right := sum16(b[:9])
		for s := range 1 << 16 {
			b[9], b[10] = byte(s>>8), byte(s)
			if uint16(s) == right {
				answers(t, b, told{x.rec, len(b), true, api.OK})
				continue
			}
			refused(t, b, api.ErrSum)
			refused(t, b[:11], api.ErrSum)
		}
	}
}

func TestParseOfAHeadersTurnedBits(t *testing.T) {
	for _, r := range good() {
		b := append(made(r), 0)
		for bit := range 8 * 11 {
			b[bit/8] ^= 1 << (bit % 8)
			refused(t, b, api.ErrSum)
			refused(t, b[:11], api.ErrSum) // ahead of the end
			b[bit/8] ^= 1 << (bit % 8)
		}
	}
}

func TestParseOfEachHeader(t *testing.T) {
	for kind := range 255 {
		for _, txn := range []uint32{0, 1, 1 << 24, 1<<32 - 1} {
			for _, key := range []int{0, 1, 64, 65, 255} {
				for _, blob := range []int{0, 1, 255, 256, 4096, 4097, 65535} {
					for _, count := range []int{0, 1, 16, 17, 255} {
						header(t, fields{kind, txn, key, blob, count})
					}
				}
			}
		}
	}
	for n := range 256 {
		header(t, fields{1, 1, n, 3, 0})
		header(t, fields{2, 1, n, 0, 0})
		header(t, fields{3, 1, n, 0, 0})
		header(t, fields{1, 1, 1, 3, n})
		header(t, fields{2, 1, 1, 0, n})
		header(t, fields{3, 1, 0, 0, n})
		header(t, fields{n, 1, 0, 0, 0})
		header(t, fields{n, 1, 1, 0, 0})
	}
	for n := range 1 << 16 {
		header(t, fields{1, 1, 1, n, 0})
		header(t, fields{2, 1, 1, n, 0})
		header(t, fields{3, 1, 0, n, 0})
	}
}

// header holds what Parse answers to a header with its right sum against the model's rule.
func header(t *testing.T, f fields) {
	t.Helper()
	head := lay(f).summed()
	wanted := api.ErrForm
	if f.kind == 255 {
		wanted = api.ErrMissing
	} else if f.mayBe() {
		wanted = api.ErrShort
	}
	refused(t, head, wanted)
}

func TestParseOfAWholeRecordThatMayNotBe(t *testing.T) {
	for _, f := range []fields{
		{0, 1, 1, 0, 0}, {4, 1, 1, 0, 0}, {254, 1, 1, 0, 0}, {0, 1, 0, 0, 0},
		{1, 0, 1, 2, 0}, {2, 0, 1, 0, 0}, {3, 0, 0, 0, 0},
		{1, 1, 0, 0, 0}, {1, 1, 0, 5, 0}, {2, 1, 0, 0, 0}, {1, 1, 65, 0, 0}, {2, 1, 65, 0, 0}, {1, 1, 255, 9, 0},
		{1, 1, 1, 4097, 0}, {1, 1, 64, 65535, 0}, {2, 1, 1, 1, 0}, {2, 1, 64, 4096, 0},
		{3, 1, 1, 0, 0}, {3, 1, 0, 1, 0}, {3, 1, 1, 1, 1}, {3, 1, 0, 0, 17}, {3, 1, 0, 0, 255},
		{1, 1, 1, 0, 1}, {2, 1, 1, 0, 1}, {1, 1, 1, 4096, 16},
	} {
		b := append(lay(f).summed(), make([]byte, f.key+f.blob)...)
		b = append(closed(b), 0)
		refused(t, b, api.ErrForm)
		b[9]++
		refused(t, b, api.ErrSum) // ahead of the form
	}
}

// P5.1: the sum of 32 bits.

func TestParseOfTurnedBitsBehindTheHeader(t *testing.T) {
	for _, r := range good() {
		if len(r.Blob) > 2 {
			continue
		}
		b := append(made(r), 0)
		end := len(b) - 1
		for bit := 8 * 11; bit < 8*end; bit++ {
			b[bit/8] ^= 1 << (bit % 8)
			for _, last := range []byte{0, 1, 255} {
				b[end] = last
				answers(t, b, told{size: len(b)})
				answers(t, joined(b, same(0, 9)), told{size: len(b)})
			}
			refused(t, b[:end], api.ErrShort) // ahead of the sum
			b[bit/8] ^= 1 << (bit % 8)
		}
	}
}

func TestParseOfTurnedBitsInALongBlob(t *testing.T) {
	b := append(made(api.Rec{Kind: 1, Txn: 1, Key: "k", Blob: make([]byte, 4096)}), 0)
	for at := 11; at < len(b)-1; at += 7 {
		b[at] ^= 1 << (at % 8)
		answers(t, b, told{size: len(b)})
		b[at] ^= 1 << (at % 8)
	}
	answers(t, b, told{api.Rec{Kind: 1, Txn: 1, Key: "k", Blob: make([]byte, 4096)}, len(b), true, api.OK})
}

func TestTheSumIsOfTheHeaderToo(t *testing.T) {
	// Two headers that tell the same lengths: the one has not the other's sum of 32 bits.
	for _, f := range []fields{{1, 2, 1, 1, 0}, {1, 1 << 31, 1, 1, 0}} {
		b := append(made(api.Rec{Kind: 1, Txn: 1, Key: "k", Blob: []byte{9}}), 0)
		copy(b, lay(f).summed())
		answers(t, b, told{size: len(b)})
	}
}

// What is programmed in part is never whole.
func TestParseOfWhatWasTorn(t *testing.T) {
	for _, x := range written() {
		whole := append(joined(x.bytes), same(255, 30)...)
		for at := range x.bytes {
			for mask := range 256 {
				b := append(joined(whole[:at]), same(255, len(whole)-at)...)
				b[at] = whole[at] | byte(mask)
				answers(t, b, parsed(b))
				if r, _, done, e := rec.Parse(b); done || e == api.OK && r.Txn != 0 && !sameRec(r, x.rec) {
					t.Fatalf("% x: %v, %v", b, r, done)
				}
			}
		}
	}
}

// P5.1: all bytes.

func TestParseAgainstModel(t *testing.T) {
	d := dice(8)
	list := good()
	for range 60000 {
		b := append(made(list[d.below(len(list)-4)]), byte(d.below(2)*d.below(256)))
		switch d.below(6) {
		case 0:
			b = d.bytes(d.below(60))
		case 1:
			b = b[:d.below(len(b)+1)]
		case 2:
			b[d.below(min(len(b), 11))] = byte(d.below(256))
			b = append(nine(b[:9]).summed(), b[11:]...)
		case 3:
			b[d.below(len(b))] = byte(d.below(256))
		case 4:
			b = append(nine(d.bytes(9)).summed(), d.bytes(d.below(60))...)
		}
		b = append(b, d.bytes(d.below(3))...)
		answers(t, b, parsed(b))
	}
}

// R6: what is handed in is neither changed nor kept.

func TestParseChangesAndKeepsNothing(t *testing.T) {
	r := api.Rec{Kind: 1, Txn: 1, Key: "key", Blob: []byte("blob")}
	spare := append(made(r), 0)
	size := len(spare)
	spare = append(spare, "and more"...)
	ahead := joined(spare)
	for n := range spare {
		rec.Parse(spare[:n])
	}
	if !bytes.Equal(spare, ahead) {
		t.Fatal("what was handed in changed")
	}
	a, _, _, _ := rec.Parse(spare[:size])
	b, _, _, _ := rec.Parse(spare[:size])
	_ = append(a.Blob[:0], same(9, cap(a.Blob))...)
	if !bytes.Equal(spare, ahead) || !sameRec(b, r) {
		t.Fatal("an answer shares memory with the bytes, or with another answer")
	}
	for i := range spare {
		spare[i] = 0
	}
	if !sameRec(b, r) {
		t.Fatal("an answer shares memory with the bytes")
	}
}
