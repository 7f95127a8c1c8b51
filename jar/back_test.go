package jar_test

import (
	"bytes"
	"testing"

	"carpetbag/api"
	"carpetbag/jar"
)

// R6: what is handed in is neither changed nor kept, and what is answered is new memory.

func fill[T any](l []T, item T) {
	l = l[:cap(l)]
	for i := range l {
		l[i] = item
	}
}

// roomy are items whose data, as the row, have spare room with something in it.
func roomy() []api.Item {
	row := append(two(), item("room", "room"))[:2]
	for i := range row {
		row[i].Data = append(row[i].Data, "room"...)[:len(row[i].Data)]
	}
	return row
}

// asRoomy asks whether items are as roomy made them.
func asRoomy(l []api.Item) bool {
	for _, x := range l {
		if string(x.Data[len(x.Data):len(x.Data)+4]) != "room" {
			return false
		}
	}
	return same(l, two()) && l[:3][2].Name == "room" && string(l[:3][2].Data) == "room"
}

func TestItemsAreNeitherChangedNorKept(t *testing.T) {
	l := roomy()
	one, _ := jar.Pack(l)
	again, _ := jar.Pack(l)
	if !asRoomy(l) {
		t.Fatal("what was handed in changed")
	}
	fill(one, 0xee)
	if !asRoomy(l) {
		t.Fatal("what is answered is what was handed in")
	}
	for _, x := range l {
		fill(x.Data, 0xdd)
	}
	fill(l, api.Item{Name: "spoilt"})
	if !bytes.Equal(again, twoBytes()) {
		t.Errorf("memory is shared: % d", again)
	}
}

func TestUnpackedItemsAreNewMemory(t *testing.T) {
	row := append(twoBytes(), "and more"...)
	b := row[:len(twoBytes())]
	one, _ := jar.Unpack(b)
	again, _ := jar.Unpack(b)
	for _, x := range one {
		fill(x.Data, 0xdd)
	}
	fill(one, api.Item{Name: "spoilt"})
	if string(row) != string(twoBytes())+"and more" {
		t.Fatalf("what was handed in changed: % d", row)
	}
	clear(row)
	if !same(again, two()) {
		t.Errorf("memory is shared: %q", again)
	}
}

// TestDataOfOneAnswerAreTheirOwn writes over one item's data at a time, and its spare room.
func TestDataOfOneAnswerAreTheirOwn(t *testing.T) {
	for i := range 40 {
		l, _ := jar.Unpack(modelBytes(numbered(40)))
		fill(l[i].Data, 0xdd)
		l[i].Data = numbered(40)[i].Data
		if !same(l, numbered(40)) {
			t.Errorf("the data of %d are shared", i)
		}
	}
}

func TestFoundDataAreNewMemory(t *testing.T) {
	l := roomy()
	one, _ := jar.Find(l, "a/B.c")
	again, _ := jar.Find(l, "a/B.c")
	none, _ := jar.Find(l, "$")
	fill(one, 0xee)
	fill(none, 0xee)
	if !asRoomy(l) {
		t.Fatal("what is answered is what was handed in")
	}
	fill(l[0].Data, 0xdd)
	if string(again) != "123456789" {
		t.Errorf("memory is shared: %q", again)
	}
}

// TestCallsDontDependOnOneAnother asks once more behind what is refused.
func TestCallsDontDependOnOneAnother(t *testing.T) {
	for range 3 {
		packs(t, two(), twoBytes())
		wontUnpack(t, twoBytes()[:20], api.ErrShort)
		wontPack(t, append(two(), two()...), api.ErrExists)
		packs(t, nil, []byte("CJ01\x00"))
	}
}
