package jad_test

import (
	"slices"
	"strings"
	"testing"

	"carpetbag/jad"
)

// P22.1: Parse.

func TestAllOrders(t *testing.T) {
	all := orders(gameLines())
	if len(all) != 120 {
		t.Fatalf("%d orders", len(all))
	}
	for _, l := range all {
		isGame(t, text(l))
		isGame(t, strings.Join(l, "\n"))
		isGame(t, "\n \n"+strings.Join(l, "  \n\n   \n "))
	}
}

func TestLastLineFeed(t *testing.T) {
	isGame(t, gameText)
	isGame(t, strings.TrimSuffix(gameText, "\n"))
	isGame(t, gameText+"\n")
	isGame(t, gameText+strings.Repeat("\n", 1000))
	isGame(t, strings.TrimSuffix(gameText, "\n")+"   ")
	isGame(t, gameText+"   ")
	isGame(t, gameText+" \n ")
}

func TestBlanksAtEnds(t *testing.T) {
	for at, line := range gameLines() {
		for _, blanks := range []string{" ", "  ", strings.Repeat(" ", 100)} {
			isGame(t, with(at, blanks+line))
			isGame(t, with(at, line+blanks))
			isGame(t, with(at, blanks+line+blanks))
		}
	}
	isGame(t, " "+strings.ReplaceAll(gameText, "\n", " \n "))
}

// TestOtherWhiteSpace has what is no blank at the ends of lines, and instead of line feeds.
func TestOtherWhiteSpace(t *testing.T) {
	for _, white := range []string{"\t", "\r", "\v", "\f", "\x00", "\x1f", "\x7f", "\u0085", "\u00a0", "\u2002", "\u2028", "\u3000", "\ufeff"} {
		for at, line := range gameLines() {
			refuses(t, with(at, white+line))
			refuses(t, with(at, line+white))
			refuses(t, with(at, " "+white+line))
			refuses(t, with(at, line+white+" "))
			refuses(t, with(at, line+" "+white))
		}
		refuses(t, strings.ReplaceAll(gameText, "\n", white))
		refuses(t, strings.ReplaceAll(gameText, " ", white))
		refuses(t, white+"\n"+gameText)
		refuses(t, gameText+white)
	}
	refuses(t, strings.ReplaceAll(gameText, "\n", "\r\n"))
}

// TestBlanksWithinLines has one or two at each place within a line.
func TestBlanksWithinLines(t *testing.T) {
	for at, line := range gameLines() {
		for i := 1; i < len(line); i++ {
			for _, blanks := range []string{" ", "  "} {
				refuses(t, with(at, line[:i]+blanks+line[i:]))
			}
		}
		word, told, _ := strings.Cut(line, ": ")
		for _, end := range []string{"", ":", ":  ", " : ", " :", " ", "  ", ";", "= ", ": : ", ":: ", "\t: ", ":\t", ":\n", ": \n", "\n: "} {
			refuses(t, with(at, word+end+told))
		}
		for _, line := range []string{word, word + ":", word + ": ", word + ": :", ": " + told, told, ":" + told, ":", ": ", told + ": " + word, word + ": " + word + ": " + told, word + ": " + told + ":", word + ": " + told + ": "} {
			refuses(t, with(at, line))
		}
	}
	refuses(t, strings.ReplaceAll(gameText, " ", ""))
	refuses(t, strings.ReplaceAll(gameText, "\n", " "))
	refuses(t, strings.ReplaceAll(gameText, "\n", ""))
}

func TestEmptyLines(t *testing.T) {
	for _, empty := range []string{"", " ", "      "} {
		for at := range 6 {
			isGame(t, text(slices.Insert(gameLines(), at, empty)))
			isGame(t, text(slices.Insert(gameLines(), at, empty, empty)))
			isGame(t, text(slices.Insert(gameLines(), at, empty, " ", "")))
		}
		isGame(t, empty+"\n"+strings.ReplaceAll(gameText, "\n", "\n"+empty+"\n"+empty))
	}
	isGame(t, strings.Repeat("\n", 1<<16)+gameText+strings.Repeat(" \n", 1<<16))
}

// TestSomeLinesAlone has all choices of lines.
func TestSomeLinesAlone(t *testing.T) {
	for choice := range 1 << 5 {
		var l []string
		for at, line := range gameLines() {
			if choice>>at&1 == 1 {
				l = append(l, line)
			}
		}
		if choice == 1<<5-1 {
			isGame(t, text(l))
			continue
		}
		refuses(t, text(l))
		refuses(t, text(l)+"\n\n")
		// As many lines as there have to be don't help.
		for range 5 - len(l) {
			l = append(l, "Other: 1")
		}
		refuses(t, text(l))
	}
	for _, none := range []string{"", "\n", "\n\n\n\n\n", " ", "     ", " \n ", ":", ": ", "\x00"} {
		refuses(t, none)
	}
}

func TestLinesTwice(t *testing.T) {
	others := []string{"Name: other", "Version: 3.2.1", "Main: C", "Size: 12", "Hash: " + strings.Repeat("a", 64)}
	for at, line := range gameLines() {
		word, _, _ := strings.Cut(line, ": ")
		for to := range 6 {
			refuses(t, text(slices.Insert(gameLines(), to, line)))
			refuses(t, text(slices.Insert(gameLines(), to, " "+line+"  ")))
			refuses(t, text(slices.Insert(gameLines(), to, others[at])))
			refuses(t, text(slices.Insert(gameLines(), to, word)))
			refuses(t, text(slices.Insert(gameLines(), to, word+":")))
			refuses(t, text(slices.Insert(gameLines(), to, word+": no such")))
		}
		// Nor does it stand for another line.
		for to := range 5 {
			if to != at {
				refuses(t, with(to, line))
				refuses(t, with(to, others[at]))
			}
		}
	}
	refuses(t, gameText+gameText)
	refuses(t, gameText+"\n"+text(others))
}

func TestOtherLines(t *testing.T) {
	for _, other := range []string{"x", "Other: x", "Class: a/B", "Name2: game", "# said", "//", "-", ".", "Jar: 1", ": x", ":", "Name", "Hash " + gameHash, "\x00", "\\", "Name= game", "MIDlet: x"} {
		for to := range 6 {
			refuses(t, text(slices.Insert(gameLines(), to, other)))
		}
		for at := range 5 {
			refuses(t, with(at, other))
		}
	}
}

// TestLinesWords has each byte stand at each place of a word, and others beside it.
func TestLinesWords(t *testing.T) {
	for at, line := range gameLines() {
		word, told, _ := strings.Cut(line, ": ")
		for i := range len(word) + 2 {
			for x := range 256 {
				b := []byte(line)
				if b[i] == byte(x) || i == 0 && x == ' ' {
					continue
				}
				b[i] = byte(x)
				refuses(t, with(at, string(b)))
			}
		}
		for _, other := range []string{
			strings.ToLower(word), strings.ToUpper(word), word + "s", word[1:], word[:len(word)-1], word[:1], "", "X" + word, word + word, "\"" + word + "\"",
			strings.ToLower(word[:1]) + word[1:], word[:1] + strings.ToUpper(word[1:]), "\ufeff" + word, "-" + word,
		} {
			refuses(t, with(at, other+": "+told))
		}
	}
	refuses(t, strings.ToLower(gameText))
	refuses(t, strings.ToUpper(gameText))
}

func TestTexts(t *testing.T) {
	for name, j := range map[string]string{"": "", "Game": "", "a b": "", "a.b": "", strings.Repeat("a", 17): "", "a/b": "", ":": "", "a:": "", "é": "",
		"game": "game", "-": "-", strings.Repeat("a", 16): strings.Repeat("a", 16), "0": "0", "name": "name"} {
		if j == "" {
			refuses(t, with(0, "Name: "+name))
			continue
		}
		want := game()
		want.Name = name
		parses(t, with(0, "Name: "+name), want)
	}
	for _, main := range []string{"", "a b", "a.B", "/a", "a/", "a//b", strings.Repeat("a", 65), "La/B;", "[I", ":", "é", "a-b"} {
		refuses(t, with(2, "Main: "+main))
	}
	for _, main := range []string{"A", "a/B", "Main", "Name", "0", strings.Repeat("a", 64), "$/_"} {
		want := game()
		want.Main = main
		parses(t, with(2, "Main: "+main), want)
	}
}

// wrongNumbers are no number's digits.
func wrongNumbers() []string {
	return []string{"", "-", "+", "-1", "-0", "+0", "+1", "+47", "00", "01", "047", "000", "0x1", "0b1", "0o7", "1e1", "1.", "1.0", "1_0", "1,0", "1 0", "a", "1a", "a1", "l", "O", "\x00", "1\x00",
		"１", "٣", "१", "1\u00a0", "\t1", "1\t", "--1", "1-", "1+", "'1'", "²", "½", "∞", "NaN", "Inf", "nil",
		"100000000000000000000", "9223372036854775807", "9223372036854775808", "9223372036854775809", "18446744073709551616", "18446744073709551617", "18446744073709556327", "4294967296", "4294967297", "340282366920938463463374607431768211457",
		strings.Repeat("9", 1000), strings.Repeat("0", 1000) + "1", "1" + strings.Repeat("0", 100000)}
}

func TestSizesNumbers(t *testing.T) {
	for _, s := range wrongNumbers() {
		refuses(t, with(3, "Size: "+s))
	}
	for _, s := range []string{"0", "65537", "65536.0", "065536", "04711", "0004711", "+4711", "-4711", "4711-", "4711a", "99999", "100000", "131072", "4294972007", "1.2.3"} {
		refuses(t, with(3, "Size: "+s))
	}
	for s, size := range map[string]int{"1": 1, "9": 9, "10": 10, "99": 99, "65535": 65535, "65536": 65536} {
		want := game()
		want.Size = size
		parses(t, with(3, "Size: "+s), want)
	}
}

func TestVersionsLines(t *testing.T) {
	for s, v := range rightVersions() {
		want := game()
		want.Version = v
		parses(t, with(1, "Version: "+s), want)
	}
	for _, s := range wrongVersions() {
		// Blanks and line feeds at the end are the line's.
		if s == strings.TrimRight(s, " \n") {
			refuses(t, with(1, "Version: "+s))
		}
	}
}

func TestHashesSigns(t *testing.T) {
	const hash = gameHash
	for _, s := range []string{"", "0", hash[:63], hash[1:], hash + "0", "0" + hash, hash + hash, hash[:32] + " " + hash[32:], strings.ToUpper(hash), "0x" + hash[2:], "0x" + hash,
		hash[:62] + "FF", hash[:63] + "g", hash[:63] + "F", "G" + hash[1:], "-" + hash[1:], hash[:62] + "é", strings.Repeat("0", 63), strings.Repeat("0", 65), strings.Repeat("0", 1000)} {
		refuses(t, with(4, "Hash: "+s))
	}
	for at := range 64 {
		for x := range 256 {
			s := hash[:at] + string([]byte{byte(x)}) + hash[at+1:]
			if strings.Contains("0123456789abcdef", string([]byte{byte(x)})) {
				if !asks(t, with(4, "Hash: "+s)) {
					t.Errorf("Hash of %q", s)
				}
			} else {
				refuses(t, with(4, "Hash: "+s))
			}
		}
	}
}

// TestCutTexts has all beginnings and ends of a text.
func TestCutTexts(t *testing.T) {
	for n := range len(gameText) - 1 {
		refuses(t, gameText[:n])
		refuses(t, gameText[n+1:])
	}
	for at := range len(gameText) {
		asks(t, gameText[:at]+gameText[at+1:])
		asks(t, gameText[:at]+gameText[at:at+1]+gameText[at:])
	}
}

// TestTurnedBytes has each byte at each place of a text.
func TestTurnedBytes(t *testing.T) {
	taken := 0
	for at := range len(gameText) {
		for x := range 256 {
			b := []byte(gameText)
			b[at] = byte(x)
			if asks(t, string(b)) {
				taken++
			}
			asks(t, gameText[:at]+string([]byte{byte(x)})+gameText[at:])
		}
	}
	if taken < 1000 {
		t.Errorf("but %d of the texts are descriptors'", taken)
	}
}

// TestThrownTexts throws lines, right and wrong ones, and turns some of their bytes.
func TestThrownTexts(t *testing.T) {
	d := dice(3)
	taken := 0
	for range 100000 {
		j := thrown(&d)
		l := strings.Split(strings.TrimSuffix(modelText(j), "\n"), "\n")
		for i := range l {
			k := d.next(i + 1)
			l[i], l[k] = l[k], l[i]
			l[i] = oneOf(&d, "", "", " ", "   ") + l[i] + oneOf(&d, "", "", " ", "  ")
		}
		for range d.next(3) {
			l = slices.Insert(l, d.next(len(l)+1), oneOf(&d, "", "", "", " ", "   ", "", oneOf(&d, l...), "x"))
		}
		b := []byte(strings.Join(l, "\n") + oneOf(&d, "", "\n", "\n\n", " "))
		if d.next(3) == 0 {
			b[d.next(len(b))] = oneOf(&d, []byte(" \n:.0aNVMSH\x00\t")...)
		}
		if asks(t, string(b)) {
			taken++
		}
	}
	if taken < 10000 || taken > 90000 {
		t.Errorf("%d of the texts are descriptors'", taken)
	}
}

// TestLongTexts asks texts that are much longer than a descriptor's.
func TestLongTexts(t *testing.T) {
	long := strings.Repeat("a", 1<<22)
	for at, line := range gameLines() {
		refuses(t, with(at, line+long))
		refuses(t, with(at, long+line))
		isGame(t, with(at, line+strings.Repeat(" ", 1<<20)))
	}
	for _, sign := range []string{"a", " ", "\n", ":", ": ", "Name: ", "0", ".", "Size: 1\n", "\x00", "\xff"} {
		s := strings.Repeat(sign, 1<<22)
		if _, e := jad.Parse(s); e == 0 {
			t.Errorf("many %q are parsed", sign)
		}
		refuses(t, gameText+"x"+s)
	}
}
