package jar_test

import (
	"bytes"
	"testing"

	"carpetbag/api"
	"carpetbag/jar"
)

// dice tells numbers that look as if thrown, the same ones each time.
type dice uint64

func (d *dice) next(below int) int {
	*d = *d*6364136223846793005 + 1442695040888963407
	return int(uint64(*d)>>33) % below
}

// oneOf is an item of a list.
func oneOf[T any](d *dice, l ...T) T { return l[d.next(len(l))] }

func (d *dice) bytes(n int) []byte {
	b := make([]byte, n)
	for i := range b {
		b[i] = byte(d.next(256))
	}
	return b
}

// signs are all that may stand in a name.
const signs = "abcdefghijklmnopqrstuvwxyzABCDEFGHIJKLMNOPQRSTUVWXYZ0123456789/_$.-"

// item has a name and data.
func item(name, data string) api.Item { return api.Item{Name: name, Data: []byte(data)} }

// numbered are n items of names of their own.
func numbered(n int) []api.Item {
	var l []api.Item
	for i := range n {
		l = append(l, item(string([]byte{'n', byte('0' + i/10%10), byte('0' + i%10)}), string(rune('a'+i%26))))
	}
	return l
}

// two are the items of most tests; their jar's bytes are twoBytes.
func two() []api.Item { return []api.Item{item("a/B.c", "123456789"), item("$", "")} }

func twoBytes() []byte {
	return []byte{
		'C', 'J', '0', '1', 2,
		5, 'a', '/', 'B', '.', 'c', 0, 0, 0, 9, '1', '2', '3', '4', '5', '6', '7', '8', '9', 0xe3, 0x06, 0x92, 0x83,
		1, '$', 0, 0, 0, 0, 0, 0, 0, 0,
	}
}

// same asks whether two rows of items are the same: an empty list may be nil.
func same(l, m []api.Item) bool {
	if len(l) != len(m) {
		return false
	}
	for i := range l {
		if l[i].Name != m[i].Name || !bytes.Equal(l[i].Data, m[i].Data) {
			return false
		}
	}
	return true
}

// packs asks that items are packed to these bytes, and unpacked as they were.
func packs(t *testing.T, l []api.Item, b []byte) {
	t.Helper()
	got, e := jar.Pack(l)
	if e != api.OK || !bytes.Equal(got, b) {
		t.Errorf("Pack of %q: % d, %d", l, got, e)
	}
	unpacks(t, b, l)
}

// wontPack asks that items are refused.
func wontPack(t *testing.T, l []api.Item, want api.Errno) {
	t.Helper()
	if got, e := jar.Pack(l); e != want || len(got) != 0 {
		t.Errorf("Pack of %d items: %d bytes, %d, not %d", len(l), len(got), e, want)
	}
}

// unpacks asks that bytes are unpacked to these items, and packed as they were.
func unpacks(t *testing.T, b []byte, l []api.Item) {
	t.Helper()
	got, e := jar.Unpack(b)
	if e != api.OK || !same(got, l) {
		t.Errorf("Unpack of % d: %q, %d", b, got, e)
	}
	if again, e := jar.Pack(got); e != api.OK || !bytes.Equal(again, b) {
		t.Errorf("% d is packed as % d, %d", b, again, e)
	}
}

// wontUnpack asks that bytes are refused.
func wontUnpack(t *testing.T, b []byte, want api.Errno) {
	t.Helper()
	if got, e := jar.Unpack(b); e != want || len(got) != 0 {
		t.Errorf("Unpack of %d bytes (% d): %q, %d, not %d", len(b), b[:min(len(b), 60)], got, e, want)
	}
}
