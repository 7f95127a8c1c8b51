package jad_test

import (
	"math"
	"strings"
	"testing"

	"carpetbag/api"
)

// P22.1: Check and Print, and that what they refuse is refused by Parse, too. P22.2: what is printed is parsed as it was.

func TestWrittenOut(t *testing.T) {
	may(t, game(), gameText)
	may(t, api.Jad{Name: "-", Main: "$", Size: 1},
		"Name: -\nVersion: 0.0.0\nMain: $\nSize: 1\nHash: 0000000000000000000000000000000000000000000000000000000000000000\n")
	long := api.Jad{Name: "0123456789abcd_z", Version: api.Version{99, 99, 99}, Main: strings.Repeat("p/", 31) + "Z9", Size: 65536}
	for i := range long.Hash {
		long.Hash[i] = 255
	}
	may(t, long, "Name: 0123456789abcd_z\nVersion: 99.99.99\nMain: "+strings.Repeat("p/", 31)+"Z9\nSize: 65536\nHash: "+strings.Repeat("f", 64)+"\n")
	mayNot(t, api.Jad{})
}

func TestNames(t *testing.T) {
	for n := range 100 {
		for _, sign := range []string{"a", "z", "0", "9", "_", "-"} {
			j := game()
			j.Name = strings.Repeat(sign, n)
			either(t, j, 1 <= n && n <= 16)
		}
	}
	for x := range 256 {
		sign := string([]byte{byte(x)})
		for _, name := range []string{sign, sign + "a", "a" + sign, "a" + sign + "a", sign + strings.Repeat("a", 15), strings.Repeat("a", 15) + sign} {
			j := game()
			j.Name = name
			// Blanks and line feeds at the name's end would be the line's.
			if x == ' ' || x == '\n' {
				isNone(t, j)
				continue
			}
			either(t, j, strings.Contains("abcdefghijklmnopqrstuvwxyz0123456789_-", sign))
		}
	}
	for _, name := range []string{"Game", "a.b", "a/b", "ä", "ｇ", "\u017f", strings.Repeat("a", 1<<20)} {
		j := game()
		j.Name = name
		mayNot(t, j)
	}
}

func TestMains(t *testing.T) {
	for n := range 200 {
		for _, sign := range []string{"a", "Z", "0", "_", "$"} {
			j := game()
			j.Main = strings.Repeat(sign, n)
			either(t, j, 1 <= n && n <= 64)
		}
	}
	for x := range 256 {
		sign := string([]byte{byte(x)})
		for _, main := range []string{sign, sign + "a", "a" + sign, "a" + sign + "a", "a/" + sign, sign + "/a"} {
			j := game()
			j.Main = main
			if x == ' ' || x == '\n' {
				isNone(t, j)
				continue
			}
			either(t, j, mainForm.MatchString(main))
		}
	}
	for _, main := range []string{"", "/", "//", "a//b", "/a", "a/", "a.B", "La/B;", "[I", "a-b", "é", strings.Repeat("a/", 32) + "b", strings.Repeat("a", 1<<20)} {
		j := game()
		j.Main = main
		mayNot(t, j)
	}
	for _, main := range []string{"I", "a/b/c/D$E_1", "0", "Main", strings.Repeat("a/", 31) + "b", strings.Repeat("a/", 31) + "bc"} {
		j := game()
		j.Main = main
		may(t, j, modelText(j))
	}
}

// parts are the edges of a version's part.
func parts() []int {
	return []int{0, 1, 9, 10, 11, 98, 99, 100, 101, 999, -1, -9, -10, -99, -100, math.MaxInt32, math.MaxInt32 + 1, math.MinInt32, math.MaxInt, math.MinInt}
}

func TestVersionsParts(t *testing.T) {
	for at := range 3 {
		for _, part := range parts() {
			for _, others := range []int{0, 7, 99} {
				j := game()
				j.Version = api.Version{others, others, others}
				j.Version[at] = part
				either(t, j, 0 <= part && part <= 99)
			}
		}
	}
	for a := range 102 {
		for b := range 102 {
			j := game()
			j.Version = api.Version{a, b, a ^ b}
			either(t, j, a < 100 && b < 100 && a^b < 100)
		}
	}
}

func TestSizes(t *testing.T) {
	for _, size := range []int{0, 65537, 65538, 100000, -1, -2, -4711, -65536, -65537, math.MaxInt, math.MinInt, math.MaxInt32, math.MinInt32, 1 << 32, 1<<32 + 1, 1<<16 + 1<<32} {
		j := game()
		j.Size = size
		mayNot(t, j)
	}
	for size := 1; size <= 65536; size++ {
		if size > 300 && size < 65000 && size%97 > 0 && size%1000 > 1 && size%1000 < 999 {
			continue
		}
		j := game()
		j.Size = size
		may(t, j, modelText(j))
	}
}

// TestHashes has each byte at each place.
func TestHashes(t *testing.T) {
	for at := range 32 {
		for x := range 256 {
			j := game()
			j.Hash[at] = byte(x)
			may(t, j, modelText(j))
			j.Hash = [32]byte{}
			j.Hash[at] = byte(x)
			may(t, j, modelText(j))
		}
	}
}

// TestOneThingWrong has all choices of what is right or wrong.
func TestOneThingWrong(t *testing.T) {
	for wrong := range 1 << 6 {
		j := game()
		for at, turn := range []func(){
			func() { j.Name = "Game" },
			func() { j.Version[0] = 100 },
			func() { j.Version[1] = -1 },
			func() { j.Version[2] = 100 },
			func() { j.Main = "a." },
			func() { j.Size = 0 },
		} {
			if wrong>>at&1 == 1 {
				turn()
			}
		}
		either(t, j, wrong == 0)
	}
}

// thrown is a descriptor of edges, more often one that may be than not.
func thrown(d *dice) api.Jad {
	j := game()
	j.Name = oneOf(d, "a", "-", "_", "0", "game", "x-1_z", strings.Repeat("n", 16))
	j.Main = oneOf(d, "A", "a/B", "$", "_/0", "a/b/c/D", strings.Repeat("m", 64))
	for i := range j.Version {
		j.Version[i] = d.next(100)
	}
	j.Size = 1 + d.next(65536)
	for i := range j.Hash {
		j.Hash[i] = byte(d.next(256))
	}
	switch d.next(12) {
	case 0:
		j.Name = oneOf(d, "", "A", strings.Repeat("n", 17), "a.b", "a/b")
	case 1:
		j.Main = oneOf(d, "", "a.B", "/", strings.Repeat("m", 65), "a//b")
	case 2:
		j.Version[d.next(3)] = oneOf(d, parts()...)
	case 3:
		j.Size = oneOf(d, 0, -1, 65537, math.MaxInt, math.MinInt)
	}
	return j
}

func TestThrownDescriptors(t *testing.T) {
	d := dice(1)
	there := 0
	for range 20000 {
		j := thrown(&d)
		ok := modelCheck(j) == api.OK
		either(t, j, ok)
		if ok {
			there++
		}
	}
	if there < 10000 || there > 19000 {
		t.Errorf("%d of the descriptors may be", there)
	}
}
