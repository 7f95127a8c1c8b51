package jad_test

import (
	"math"
	"strings"
	"testing"

	"carpetbag/api"
	"carpetbag/jad"
)

// P22.1: versions.

// rightVersions are texts of versions.
func rightVersions() map[string]api.Version {
	return map[string]api.Version{
		"1.2.3": {1, 2, 3}, "0.0.0": {}, "99.99.99": {99, 99, 99}, "0.0.1": {0, 0, 1}, "10.9.0": {10, 9, 0}, "99.0.10": {99, 0, 10}, "0.99.0": {0, 99, 0}, "9.10.11": {9, 10, 11}, "20.30.40": {20, 30, 40},
	}
}

// wrongVersions are texts of none.
func wrongVersions() []string {
	l := []string{"", ".", "..", "...", "....", "1", "1.2", "1.2.", ".1.2", "1..3", "1.2.3.", ".1.2.3", "1.2.3.4", "1.2..3", "1.2.3..", "..1.2.3", "1.2.3.4.5", "1. 2.3", "1 .2.3", " 1.2.3", "1.2.3 ", "1.2.3\n", "\n1.2.3",
		"1,2,3", "1.2,3", "1-2-3", "1:2:3", "1 2 3", "v1.2.3", "1.2.3a", "1.2.3-a", "1.2.b", "a.b.c", "１.2.3", "1．2．3", "1·2·3", "1.2.3\x00", "\x001.2.3", "1.2.3\xff", "Version: 1.2.3", "1.2.3.1.2.3", "1.2.31.2.3",
		"100.0.0", "0.100.0", "0.0.100", "101.1.1", "999.9.9", "-1.2.3", "1.-2.3", "1.2.-3", "-0.0.0", "0.-0.0", "0.0.-0", "+1.2.3", "1.+2.3", "1.2.+3", "01.2.3", "1.02.3", "1.2.03", "00.0.0", "0.00.0", "0.0.00", "000.0.0", "1.2.099",
		strings.Repeat(".", 1<<20), strings.Repeat("1.", 1<<20), strings.Repeat("1", 1<<20), "1.2." + strings.Repeat("0", 1<<20), "1.2.3" + strings.Repeat(" ", 1000)}
	for _, s := range wrongNumbers() {
		l = append(l, s+".2.3", "1."+s+".3", "1.2."+s, s+"."+s+"."+s)
	}
	return l
}

func TestParseVersion(t *testing.T) {
	for s, want := range rightVersions() {
		if v, e := jad.ParseVersion(s); e != api.OK || v != want {
			t.Errorf("ParseVersion of %q: %d, %d", s, v, e)
		}
		asksVersion(t, s)
	}
	for _, s := range wrongVersions() {
		if v, e := jad.ParseVersion(s); e != api.ErrForm || v != (api.Version{}) {
			t.Errorf("ParseVersion of %.80q: %d, %d", s, v, e)
		}
		asksVersion(t, s)
	}
}

// TestAllVersions has all that may be, each there and back.
func TestAllVersions(t *testing.T) {
	for a := range 100 {
		for b := range 100 {
			for c := range 100 {
				v := api.Version{a, b, c}
				if got, e := jad.ParseVersion(jad.PrintVersion(v)); e != api.OK || got != v {
					t.Fatalf("%d is parsed as %d, %d", v, got, e)
				}
			}
		}
	}
}

// TestShortVersions has all short texts of the signs that matter.
func TestShortVersions(t *testing.T) {
	const signs = "019.-+ a"
	taken := 0
	var goOn func(s string)
	goOn = func(s string) {
		if asksVersion(t, s) {
			taken++
		}
		if len(s) < 6 {
			for i := range signs {
				goOn(s + signs[i:i+1])
			}
		}
	}
	goOn("")
	// Three digits, each of three; or one of three numbers of two digits more (10, 11, 19, and so on: six).
	if want := 27 + 3*9*6; taken != want {
		t.Errorf("%d of the texts are versions', not %d", taken, want)
	}
}

// TestLongerVersions has all texts of points and two digits, up to nine signs.
func TestLongerVersions(t *testing.T) {
	const signs = "09."
	var goOn func(s string)
	goOn = func(s string) {
		asksVersion(t, s)
		if len(s) < 9 {
			for i := range signs {
				goOn(s + signs[i:i+1])
			}
		}
	}
	goOn("")
}

func TestPrintVersion(t *testing.T) {
	for want, v := range rightVersions() {
		if got := jad.PrintVersion(v); got != want {
			t.Errorf("PrintVersion of %d: %q", v, got)
		}
	}
	for want, v := range map[string]api.Version{
		"-1.2.3": {-1, 2, 3}, "1.-2.3": {1, -2, 3}, "1.2.-3": {1, 2, -3}, "-1.-1.-1": {-1, -1, -1}, "100.101.1000": {100, 101, 1000}, "-10.0.-99": {-10, 0, -99},
		"9223372036854775807.-9223372036854775808.0": {math.MaxInt64, math.MinInt64, 0},
		"-9223372036854775808.0.9223372036854775807": {math.MinInt64, 0, math.MaxInt64},
		"0.9223372036854775807.-9223372036854775808": {0, math.MaxInt64, math.MinInt64},
		"2147483647.-2147483648.4294967296":          {math.MaxInt32, math.MinInt32, 1 << 32},
	} {
		if got := jad.PrintVersion(v); got != want {
			t.Errorf("PrintVersion of %d: %q", v, got)
		}
		if got, e := jad.ParseVersion(want); e != api.ErrForm || got != (api.Version{}) {
			t.Errorf("ParseVersion of %q: %d, %d", want, got, e)
		}
	}
	for _, a := range parts() {
		for _, b := range parts() {
			for _, c := range parts() {
				v := api.Version{a, b, c}
				if got := jad.PrintVersion(v); got != modelPrint(v) {
					t.Errorf("PrintVersion of %d: %q", v, got)
				}
			}
		}
	}
}

func TestCmp(t *testing.T) {
	for _, x := range []struct {
		a, b api.Version
		want int
	}{
		{api.Version{}, api.Version{}, 0},
		{api.Version{1, 2, 3}, api.Version{1, 2, 3}, 0},
		{api.Version{1, 2, 3}, api.Version{2, 2, 3}, -1},
		{api.Version{1, 2, 3}, api.Version{1, 3, 3}, -1},
		{api.Version{1, 2, 3}, api.Version{1, 2, 4}, -1},
		{api.Version{1, 9, 9}, api.Version{2, 0, 0}, -1},
		{api.Version{1, 0, 9}, api.Version{1, 1, 0}, -1},
		{api.Version{1, 9, 0}, api.Version{2, 0, 0}, -1},
		{api.Version{1, 0, 9}, api.Version{2, 0, 0}, -1},
		{api.Version{9, 0, 0}, api.Version{10, 0, 0}, -1},
		{api.Version{0, 9, 0}, api.Version{0, 10, 0}, -1},
		{api.Version{0, 0, 9}, api.Version{0, 0, 10}, -1},
		{api.Version{0, 99, 99}, api.Version{1, 0, 0}, -1},
		{api.Version{0, 0, 99}, api.Version{0, 1, 0}, -1},
		{api.Version{-1, 5, 5}, api.Version{0, 0, 0}, -1},
		{api.Version{-2, 0, 0}, api.Version{-1, 0, 0}, -1},
		{api.Version{0, 0, -1}, api.Version{0, 0, 0}, -1},
		{api.Version{math.MinInt, 0, 0}, api.Version{math.MaxInt, 0, 0}, -1},
		{api.Version{0, math.MinInt, 9}, api.Version{0, 1, 0}, -1},
		{api.Version{0, 0, -2}, api.Version{0, 0, math.MaxInt}, -1},
		{api.Version{math.MaxInt - 1, math.MaxInt, math.MaxInt}, api.Version{math.MaxInt, math.MinInt, math.MinInt}, -1},
		{api.Version{1, 1, 0}, api.Version{1<<32 + 1, 0, 0}, -1},
	} {
		if got := jad.Cmp(x.a, x.b); got != x.want {
			t.Errorf("Cmp of %d and %d: %d", x.a, x.b, got)
		}
		if got := jad.Cmp(x.b, x.a); got != -x.want {
			t.Errorf("Cmp of %d and %d: %d", x.b, x.a, got)
		}
	}
}

// TestCmpOfAll has all versions of a few parts against one another.
func TestCmpOfAll(t *testing.T) {
	var all []api.Version
	few := []int{math.MinInt, -1, 0, 1, 99, math.MaxInt}
	for _, a := range few {
		for _, b := range few {
			for _, c := range few {
				all = append(all, api.Version{a, b, c})
			}
		}
	}
	for i, a := range all {
		for k, b := range all {
			// They stand in order.
			want := 0
			if i < k {
				want = -1
			} else if i > k {
				want = 1
			}
			if got := jad.Cmp(a, b); got != want || got != modelCmp(a, b) {
				t.Errorf("Cmp of %d and %d: %d", a, b, got)
			}
		}
	}
}

func TestCmpOfThrown(t *testing.T) {
	d := dice(5)
	for range 100000 {
		var a, b api.Version
		for i := range a {
			a[i] = oneOf(&d, parts()...)
			b[i] = oneOf(&d, a[i], a[i], oneOf(&d, parts()...))
		}
		if got := jad.Cmp(a, b); got != modelCmp(a, b) {
			t.Fatalf("Cmp of %d and %d: %d", a, b, got)
		}
	}
}
