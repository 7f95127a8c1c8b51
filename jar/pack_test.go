package jar_test

import (
	"slices"
	"strings"
	"testing"

	"carpetbag/api"
	"carpetbag/jar"
)

// P20.1: Pack, and what is packed is unpacked.

func TestPackWrittenOut(t *testing.T) {
	packs(t, nil, []byte{'C', 'J', '0', '1', 0})
	packs(t, []api.Item{}, []byte{'C', 'J', '0', '1', 0})
	packs(t, two(), twoBytes())
	packs(t, []api.Item{{Name: "-"}}, []byte{'C', 'J', '0', '1', 1, 1, '-', 0, 0, 0, 0, 0, 0, 0, 0})
	packs(t, []api.Item{item("x", "\x00")}, []byte{'C', 'J', '0', '1', 1, 1, 'x', 0, 0, 0, 1, 0, 0x52, 0x7d, 0x53, 0x51})
}

func TestOrderIsKept(t *testing.T) {
	l := two()
	slices.Reverse(l)
	packs(t, l, modelBytes(l))
	l = numbered(40)
	slices.Reverse(l)
	packs(t, l, modelBytes(l))
}

func TestHowManyItems(t *testing.T) {
	for n := range 41 {
		packs(t, numbered(n), modelBytes(numbered(n)))
	}
	for _, n := range []int{41, 42, 100} {
		wontPack(t, numbered(n), api.ErrLong)
	}
	wontPack(t, many(100000), api.ErrLong)
}

// many are items of names of their own, more than numbered tells.
func many(n int) []api.Item {
	l := make([]api.Item, n)
	for i := range l {
		var name []byte
		for rest := i; rest > 0 || len(name) == 0; rest /= 60 {
			name = append(name, signs[rest%60])
		}
		l[i].Name = string(name)
	}
	return l
}

func TestNamesLengths(t *testing.T) {
	for n := range 300 {
		name := strings.Repeat("n", n)
		if 1 <= n && n <= 64 {
			packs(t, []api.Item{item(name, "data")}, modelBytes([]api.Item{item(name, "data")}))
		} else {
			wontPack(t, []api.Item{item(name, "data")}, api.ErrName)
		}
	}
	wontPack(t, []api.Item{item(strings.Repeat("n", 1<<20), "")}, api.ErrName)
}

// TestNamesSigns has each byte in a name, alone and at each end of others.
func TestNamesSigns(t *testing.T) {
	for x := range 256 {
		sign := string([]byte{byte(x)})
		for _, name := range []string{sign, sign + "ab", "a" + sign + "b", "ab" + sign, strings.Repeat("a", 63) + sign} {
			l := []api.Item{item("first", ""), item(name, "1")}
			if strings.Contains(signs, sign) {
				packs(t, l, modelBytes(l))
			} else {
				wontPack(t, l, api.ErrName)
			}
		}
	}
	for _, name := range []string{"é", "aé", "Ω", "ａ", "１", "𝐚", "\xc3", " ", "a b", "a\x00", "\u212a", "\u017f"} {
		wontPack(t, []api.Item{item(name, "")}, api.ErrName)
	}
	for _, name := range []string{".", "..", "/", "//", "a/", "/a", "META-INF/MANIFEST.MF", "a/B$C_1.class"} {
		packs(t, []api.Item{item(name, "")}, modelBytes([]api.Item{item(name, "")}))
	}
	packs(t, []api.Item{item(signs[:64], "x"), item(signs[3:], "y")}, modelBytes([]api.Item{item(signs[:64], "x"), item(signs[3:], "y")}))
}

func TestTwoOfOneName(t *testing.T) {
	for _, n := range []int{2, 3, 7, 40} {
		for i := range n {
			for j := range i {
				l := numbered(n)
				l[i].Name = l[j].Name
				wontPack(t, l, api.ErrExists)
				l[i].Data = l[j].Data
				wontPack(t, l, api.ErrExists)
			}
		}
	}
	// Names are the same if all their bytes are.
	l := []api.Item{item("a", "1"), item("A", "1"), item("a/", "1"), item("aa", "1")}
	packs(t, l, modelBytes(l))
}

// full is a row whose jar has n bytes.
func full(n, items int) []api.Item {
	l := numbered(items)
	l[0].Data = nil
	l[0].Data = make([]byte, n-len(modelBytes(l)))
	for i := range l[0].Data {
		l[0].Data[i] = byte(i * 7)
	}
	return l
}

func TestHowManyBytes(t *testing.T) {
	for _, items := range []int{1, 2, 17, 40} {
		for _, n := range []int{65534, 65535, 65536} {
			l := full(n, items)
			packs(t, l, modelBytes(l))
		}
		for _, n := range []int{65537, 65538, 65540, 65541, 131072, 1 << 20} {
			wontPack(t, full(n, items), api.ErrLong)
		}
		// What is too much may stand in the last one.
		l := full(65536, items)
		l[items-1].Data = append(l[items-1].Data, 1)
		wontPack(t, l, api.ErrLong)
		l = full(65536, items)
		l[items-1].Name += "n"
		wontPack(t, l, api.ErrLong)
		wontPack(t, append(full(65536, items), item("z", "")), api.ErrLong)
	}
}

// TestPacksErrorsOrder has each set of what may be wrong at once.
func TestPacksErrorsOrder(t *testing.T) {
	for set := range 16 {
		var l []api.Item
		want := api.OK
		if set&1 != 0 {
			l, want = numbered(41), api.ErrLong
		} else {
			l = numbered(5)
		}
		if set&2 != 0 {
			l[1].Data, want = make([]byte, 65536), api.ErrLong
		}
		if set&4 != 0 {
			l[len(l)-2].Name, want = l[0].Name, api.ErrExists
		}
		if set&8 != 0 {
			l[len(l)-1].Name, want = "a b", api.ErrName
		}
		if want == api.OK {
			packs(t, l, modelBytes(l))
		} else {
			wontPack(t, l, want)
		}
		slices.Reverse(l)
		if want != api.OK {
			wontPack(t, l, want)
		}
	}
	// Two of a name that is none, too.
	wontPack(t, []api.Item{item("", ""), item("", "")}, api.ErrName)
	wontPack(t, []api.Item{item("a", ""), item("a", ""), item("", "")}, api.ErrName)
	wontPack(t, append(numbered(41), item("n00", "")), api.ErrExists)
	wontPack(t, append(many(100000), item("a", "")), api.ErrExists)
	wontPack(t, append(many(100000), item("~", "")), api.ErrName)
}

func TestThrownItems(t *testing.T) {
	d := dice(1)
	var counts [18]int
	for range 20000 {
		l := thrown(&d)
		for range d.next(3) {
			turnItem(&d, &l)
		}
		want, e := modelPack(l)
		counts[e]++
		if e == api.OK {
			packs(t, l, want)
		} else {
			wontPack(t, l, e)
		}
	}
	for _, e := range []api.Errno{api.OK, api.ErrName, api.ErrExists, api.ErrLong} {
		if counts[e] < 400 {
			t.Errorf("%d came %d times", e, counts[e])
		}
	}
}

// thrown are items whose names are most often their own ones.
func thrown(d *dice) []api.Item {
	l := make([]api.Item, oneOf(d, 0, 1, 2, 3, 5, 9, 40))
	for i := range l {
		name := make([]byte, oneOf(d, 1, 2, 3, 8, 64))
		for j := range name {
			name[j] = signs[d.next(len(signs))]
		}
		name[0] = signs[i]
		l[i] = api.Item{Name: string(name), Data: d.bytes(oneOf(d, 0, 0, 1, 2, 7, 30))}
	}
	return l
}

// turnItem makes an item another one.
func turnItem(d *dice, l *[]api.Item) {
	if len(*l) == 0 {
		return
	}
	x := &(*l)[d.next(len(*l))]
	switch d.next(6) {
	case 0:
		x.Name = oneOf(d, "", "a b", "\x00", strings.Repeat("n", 65), "é", "~")
	case 1, 2:
		x.Name = (*l)[d.next(len(*l))].Name
	case 3:
		x.Data = make([]byte, oneOf(d, 65000, 65536, 60000))
	case 4:
		*l = append(*l, item("last", ""))
	case 5:
		x.Data = append(x.Data, byte(d.next(256)))
	}
}

// P20.1: Find.

func TestFind(t *testing.T) {
	l := []api.Item{item("a", "1"), item("b", ""), item("a", "2"), item("", "none"), {Name: "nil"}, item("a b", "3"), item("b", "4"), item("A", "5")}
	for _, c := range []struct {
		name, data string
		ok         bool
	}{
		{"a", "1", true}, {"b", "", true}, {"", "none", true}, {"nil", "", true}, {"a b", "3", true}, {"A", "5", true},
		{"c", "", false}, {"ab", "", false}, {"B", "", false}, {"a ", "", false}, {"ni", "", false}, {"nil\x00", "", false},
	} {
		got, ok := jar.Find(l, c.name)
		if ok != c.ok || string(got) != c.data {
			t.Errorf("Find %q: %q, %t", c.name, got, ok)
		}
		for _, none := range [][]api.Item{nil, {}} {
			if got, ok := jar.Find(none, c.name); ok || len(got) != 0 {
				t.Errorf("Find %q of nothing: %q, %t", c.name, got, ok)
			}
		}
	}
	// Of what isn't there, nothing that is there is told: the first and the last one, too.
	for n := range 45 {
		l := numbered(n)
		for i := range l {
			if got, ok := jar.Find(l, l[i].Name); !ok || string(got) != string(l[i].Data) {
				t.Errorf("item %d of %d: %q, %t", i, n, got, ok)
			}
		}
		if got, ok := jar.Find(l, "n"); ok || len(got) != 0 {
			t.Errorf("what isn't there, of %d: %q, %t", n, got, ok)
		}
	}
}
