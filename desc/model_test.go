package desc_test

import (
	"fmt"
	"regexp"
	"slices"
	"strings"
	"testing"

	"carpetbag/api"
	"carpetbag/desc"
)

// What the chapter's words tell, as regular expressions.
var (
	classForm = regexp.MustCompile(`\A[A-Za-z0-9_$]+(/[A-Za-z0-9_$]+)*\z`)
	aloneForm = regexp.MustCompile(`\A[IJ]\z`)
	arrayForm = regexp.MustCompile(`\A\[{1,8}[IB]\z`)
	classType = regexp.MustCompile(`\A\[{0,8}L([^;]*);\z`)
)

// modelClass is what IsClass has to answer.
func modelClass(s string) bool {
	return len(s) <= 64 && classForm.MatchString(s)
}

// modelType is what IsType has to answer.
func modelType(s string) bool {
	if m := classType.FindStringSubmatch(s); m != nil {
		return modelClass(m[1])
	}
	return aloneForm.MatchString(s) || arrayForm.MatchString(s)
}

// rows are all rows of types that a text is: the promises want it to be one at most.
func rows(s string) [][]string {
	if s == "" {
		return [][]string{nil}
	}
	var all [][]string
	for n := 1; n <= len(s); n++ {
		if !modelType(s[:n]) {
			continue
		}
		for _, behind := range rows(s[n:]) {
			all = append(all, append([]string{s[:n]}, behind...))
		}
	}
	return all
}

// told is what Method answers.
type told struct {
	args []string
	ret  string
	e    api.Errno
}

// String tells an answer in a fault's text.
func (a told) String() string {
	return fmt.Sprintf("%q, %q, %d", a.args, a.ret, a.e)
}

// modelMethod is what Method has to answer.
func modelMethod(t testing.TB, s string) told {
	t.Helper()
	end := strings.LastIndexByte(s, ')')
	if end < 1 || s[0] != '(' || s[end+1:] != "V" && !modelType(s[end+1:]) {
		return told{e: api.ErrForm}
	}
	all := rows(s[1:end])
	if len(all) > 1 {
		t.Fatalf("%q has %d rows of arguments", s, len(all))
	}
	if len(all) == 0 || len(all[0]) > 16 {
		return told{e: api.ErrForm}
	}
	return told{args: all[0], ret: s[end+1:]}
}

// method is what Method answers.
func method(s string) told {
	args, ret, e := desc.Method(s)
	return told{args, ret, e}
}

// same asks whether two answers of Method are the same.
func same(a, b told) bool {
	return slices.Equal(a.args, b.args) && a.ret == b.ret && a.e == b.e
}

// checks holds all calls that tell a form against the model, and answers whether a text is a method's description.
func checks(t testing.TB, s string) bool {
	t.Helper()
	if got, wanted := desc.IsClass(s), modelClass(s); got != wanted {
		t.Fatalf("IsClass(%q): %v", s, got)
	}
	if got, wanted := desc.IsType(s), modelType(s); got != wanted {
		t.Fatalf("IsType(%q): %v", s, got)
	}
	wanted := modelMethod(t, s)
	if got := method(s); !same(got, wanted) {
		t.Fatalf("Method(%q): %v, not %v", s, got, wanted)
	}
	if wanted.e != api.OK {
		return false
	}
	if got := desc.Print(wanted.args, wanted.ret); got != s {
		t.Fatalf("Print(%q, %q): %q, not %q", wanted.args, wanted.ret, got, s)
	}
	return true
}

// wraps checks a text and what it is within others.
func wraps(t testing.TB, s string) {
	t.Helper()
	for _, around := range []string{"%", "L%;", "[L%;", "(%)V", "(%", "()%", "(I%)[I", "(%J)LA;", "(LA;%", "%)V"} {
		checks(t, strings.Replace(around, "%", s, 1))
	}
}

// kinds are types of all kinds that aren't arrays, or may be an array's items.
func kinds() []string {
	return []string{"I", "J", "B", "V", "LA;", "La/b/C$1;", "L;", "L/;", "C", "Z", "S", "", "A", ";", "("}
}

// types are types of all kinds.
func types() []string {
	return []string{"I", "J", "LA;", "La/b/C$1;", "[I", "[B", "[LA;", "[[I", "[[B", "[[[LI/J/V;", strings.Repeat("[", 8) + "B", "L" + strings.Repeat("x", 64) + ";"}
}

// dice tells numbers that look as if thrown, the same ones each time.
type dice uint64

func (d *dice) next(below int) int {
	*d = *d*6364136223846793005 + 1442695040888963407
	return int(uint64(*d)>>33) % below
}
