package jad_test

import (
	"cmp"
	"encoding/hex"
	"fmt"
	"math/big"
	"regexp"
	"slices"
	"strconv"
	"strings"
	"testing"

	"carpetbag/api"
	"carpetbag/jad"
)

// What the chapter's words tell, as regular expressions.
var (
	nameForm    = regexp.MustCompile(`\A[a-z0-9_-]{1,16}\z`)
	versionForm = regexp.MustCompile(`\A(0|[1-9][0-9]?)\.(0|[1-9][0-9]?)\.(0|[1-9][0-9]?)\z`)
	mainForm    = regexp.MustCompile(`\A[A-Za-z0-9_$]+(/[A-Za-z0-9_$]+)*\z`)
	sizeForm    = regexp.MustCompile(`\A[1-9][0-9]{0,4}\z`)
	hashForm    = regexp.MustCompile(`\A[0-9a-f]{64}\z`)
)

// modelVersion is what ParseVersion has to answer.
func modelVersion(s string) (api.Version, api.Errno) {
	m := versionForm.FindStringSubmatch(s)
	if m == nil {
		return api.Version{}, api.ErrForm
	}
	var v api.Version
	for i := range v {
		v[i], _ = strconv.Atoi(m[i+1])
	}
	return v, api.OK
}

// modelPrint is what PrintVersion has to answer.
func modelPrint(v api.Version) string { return fmt.Sprintf("%d.%d.%d", v[0], v[1], v[2]) }

// modelCmp is what Cmp has to answer.
func modelCmp(a, b api.Version) int {
	// Each part counts more than all behind it together, however far they are apart.
	base := new(big.Int).Lsh(big.NewInt(1), 70)
	sum := big.NewInt(0)
	for i := range a {
		apart := new(big.Int).Sub(big.NewInt(int64(a[i])), big.NewInt(int64(b[i])))
		sum.Add(sum.Mul(sum, base), apart)
	}
	return sum.Sign()
}

// modelCheck is what Check has to answer.
func modelCheck(j api.Jad) api.Errno {
	for _, part := range j.Version {
		if part < 0 || part > 99 {
			return api.ErrForm
		}
	}
	if nameForm.MatchString(j.Name) && mainForm.MatchString(j.Main) && len(j.Main) <= 64 && 1 <= j.Size && j.Size <= 65536 {
		return api.OK
	}
	return api.ErrForm
}

// modelText is a descriptor's text, whether it may be or not.
func modelText(j api.Jad) string {
	return fmt.Sprintf("Name: %s\nVersion: %s\nMain: %s\nSize: %d\nHash: %x\n", j.Name, modelPrint(j.Version), j.Main, j.Size, j.Hash)
}

// modelParse is what Parse has to answer: the words' order as texts tells which line is which.
func modelParse(s string) (api.Jad, api.Errno) {
	var l []string
	for _, line := range strings.Split(s, "\n") {
		for strings.HasPrefix(line, " ") {
			line = line[1:]
		}
		for strings.HasSuffix(line, " ") {
			line = line[:len(line)-1]
		}
		if line != "" {
			l = append(l, line)
		}
	}
	slices.SortFunc(l, cmp.Compare[string])
	words := []string{"Hash: ", "Main: ", "Name: ", "Size: ", "Version: "}
	if len(l) != len(words) {
		return api.Jad{}, api.ErrForm
	}
	for i, word := range words {
		if !strings.HasPrefix(l[i], word) {
			return api.Jad{}, api.ErrForm
		}
		l[i] = l[i][len(word):]
	}
	v, e := modelVersion(l[4])
	if e != api.OK || !hashForm.MatchString(l[0]) || !sizeForm.MatchString(l[3]) {
		return api.Jad{}, api.ErrForm
	}
	j := api.Jad{Name: l[2], Version: v, Main: l[1]}
	j.Size, _ = strconv.Atoi(l[3])
	b, _ := hex.DecodeString(l[0])
	j.Hash = [32]byte(b)
	if modelCheck(j) != api.OK {
		return api.Jad{}, api.ErrForm
	}
	return j, api.OK
}

// asks holds Parse of a text against the model, and answers whether it is a descriptor's.
func asks(t testing.TB, s string) bool {
	t.Helper()
	want, e := modelParse(s)
	if got, ge := jad.Parse(s); got != want || ge != e {
		t.Fatalf("Parse of %q: %v, %d, not %v, %d", s, got, ge, want, e)
	}
	return e == api.OK
}

// asksVersion holds ParseVersion against the model, and answers whether a text is a version's.
func asksVersion(t testing.TB, s string) bool {
	t.Helper()
	want, e := modelVersion(s)
	if got, ge := jad.ParseVersion(s); got != want || ge != e {
		t.Fatalf("ParseVersion of %q: %d, %d, not %d, %d", s, got, ge, want, e)
	}
	return e == api.OK
}
