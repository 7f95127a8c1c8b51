package verify_test

import (
	"math"
	"strings"
	"testing"

	"carpetbag/api"
	"carpetbag/verify"
)

// P19.1: Step, of what has a number or names.

// atEach asks for a local's type at each place of seven, and of ones that aren't there; "" where there is none.
func atEach(t *testing.T, op byte, wanted string) {
	t.Helper()
	w, m := world(t), api.Method{Stack: 2}
	for i, s := range strings.Split(wanted, ",") {
		push := s
		if s == "J" {
			push = "J,-"
		}
		if op == api.OpIinc {
			push = ""
		}
		if s == "" {
			doesNot(t, w, m, at(op, int64(i)), "")
		} else {
			does(t, w, m, at(op, int64(i)), "", push)
		}
	}
	for _, n := range []int64{-1, -2, 7, 8, 64, math.MinInt64, math.MinInt64 + 1, math.MaxInt64, math.MaxInt32 + 1, 1 << 32, 1<<32 + 1, math.MinInt32} {
		doesNot(t, w, m, at(op, n), "")
	}
}

// TestLoadsAtEachPlace is of the locals I, J, -, T, N, LA; and [I.
func TestLoadsAtEachPlace(t *testing.T) {
	atEach(t, api.OpIload, "I,,,,,,")
	atEach(t, api.OpIinc, "I,,,,,,")
	atEach(t, api.OpLload, ",J,,,,,")
	atEach(t, api.OpAload, ",,,,N,LA;,[I")
}

// stores asks for the locals behind a store at each place.
func stores(t *testing.T, op byte, stack, kind string, wanted ...string) {
	t.Helper()
	w := world(t)
	f := frame("I,J,-,T,N,LA;,[I", "N,"+stack)
	for i, s := range wanted {
		got, ok := verify.Step(w, api.Method{}, f, at(op, int64(i)))
		want := frame(strings.ReplaceAll(s, "x", kind), "N")
		if s == "" {
			want = api.Frame{}
		}
		if ok != (s != "") || !same(got, want) {
			t.Errorf("%d of %q at %d: %q, %v", op, stack, i, got, ok)
		}
	}
	for _, n := range []int64{-1, -2, 7, 8, 64, math.MinInt64, math.MinInt64 + 1, math.MaxInt64, math.MaxInt32 + 1, 1 << 32, 1<<32 + 1, math.MinInt32} {
		if got, ok := verify.Step(w, api.Method{}, f, at(op, n)); ok || !isNone(got) {
			t.Errorf("%d of %q at %d: %q, %v", op, stack, n, got, ok)
		}
	}
}

// TestStoresAtEachPlace has halves of longs be lost.
func TestStoresAtEachPlace(t *testing.T) {
	one := []string{"x,J,-,T,N,LA;,[I", "I,x,T,T,N,LA;,[I", "I,T,x,T,N,LA;,[I", "I,J,-,x,N,LA;,[I", "I,J,-,T,x,LA;,[I", "I,J,-,T,N,x,[I", "I,J,-,T,N,LA;,x"}
	stores(t, api.OpIstore, "I", "I", one...)
	for _, s := range []string{"N", "LB;", "[[B", "LX;"} {
		stores(t, api.OpAstore, s, s, one...)
	}
	stores(t, api.OpLstore, "J,-", "J", "x,-,T,T,N,LA;,[I", "I,x,-,T,N,LA;,[I", "I,T,x,-,N,LA;,[I", "I,J,-,x,-,LA;,[I", "I,J,-,T,x,-,[I", "I,J,-,T,N,x,-", "")
}

// TestConstantsForLdc has each Desc, of which just "S" is a text's.
func TestConstantsForLdc(t *testing.T) {
	w, m := world(t), api.Method{Stack: 2}
	for _, d := range []string{"I", "S"} {
		for _, n := range []int64{0, -1, math.MaxInt64} {
			after := map[string]string{"I": "I", "S": "[B"}[d]
			does(t, w, m, api.Ins{Op: api.OpLdc, Desc: d, N: n, Text: "text"}, "I", "I,"+after)
			does(t, w, m, api.Ins{Op: api.OpLdc, Desc: d, N: n}, "", after)
		}
		doesNot(t, w, m, api.Ins{Op: api.OpLdc, Desc: d}, "I,I")
	}
	does(t, w, m, api.Ins{Op: api.OpLdc2, Desc: "J"}, "", "J,-")
	doesNot(t, w, m, api.Ins{Op: api.OpLdc2, Desc: "J"}, "I")
}

// TestReturnsOfEachMethod holds each return against methods of each kind, with what they answer, and with other stacks.
func TestReturnsOfEachMethod(t *testing.T) {
	w := world(t)
	stacks := map[string]string{"I": "I", "J": "J,-", "LA;": "LB;", "[LA;": "[Lx/C;", "[B": "[B", "V": ""}
	ops := map[string]byte{"I": api.OpIreturn, "J": api.OpLreturn, "LA;": api.OpAreturn, "[LA;": api.OpAreturn, "[B": api.OpAreturn, "V": api.OpReturn}
	for ret, stack := range stacks {
		m := api.Method{Desc: "(I)" + ret, Stack: 2}
		does(t, w, m, at(ops[ret], 0), stack, "")
		does(t, w, m, at(ops[ret], 0), strings.TrimSuffix("LX;,T,"+stack, ","), "LX;,T")
		for _, op := range []byte{api.OpIreturn, api.OpLreturn, api.OpAreturn, api.OpReturn} {
			for _, s := range stacks {
				if op != ops[ret] {
					doesNot(t, w, m, at(op, 0), s)
				} else if s != stack && ret != "V" {
					doesNot(t, w, m, at(op, 0), s)
				}
			}
		}
	}
	for _, d := range []string{"", "()", "I", "()I ", "(V)I", "()[J", "()L;", "(I", strings.Repeat("(", 1<<16)} {
		for op, s := range map[byte]string{api.OpIreturn: "I", api.OpLreturn: "J,-", api.OpAreturn: "N", api.OpReturn: ""} {
			doesNot(t, w, api.Method{Desc: d, Stack: 2}, at(op, 0), s)
		}
	}
	m := api.Method{Desc: "()LX;"}
	doesNot(t, w, m, at(api.OpAreturn, 0), "LX;")
	doesNot(t, w, m, at(api.OpAreturn, 0), "N")
	does(t, w, api.Method{Desc: "()LObject;"}, at(api.OpAreturn, 0), "[I", "")
}

// TestFields that are there, that stand in a superclass, that are static and that aren't.
func TestFields(t *testing.T) {
	w, m := world(t), api.Method{Stack: 2}
	for _, class := range []string{"A", "B", "x/C"} {
		this := "L" + class + ";"
		for name, d := range map[string]string{"i": "I", "j": "J", "b": "[B", "a": "LA;"} {
			value := strings.ReplaceAll(d, "J", "J,-")
			does(t, w, m, named(api.OpGetfield, class, name, d), this, value)
			does(t, w, m, named(api.OpPutfield, class, name, d), this+","+value, "")
			does(t, w, m, named(api.OpGetstatic, class, "s"+name, d), "", value)
			does(t, w, m, named(api.OpPutstatic, class, "s"+name, d), value, "")
			doesNot(t, w, m, named(api.OpGetfield, class, "s"+name, d), this)
			doesNot(t, w, m, named(api.OpPutfield, class, "s"+name, d), this+","+value)
			doesNot(t, w, m, named(api.OpGetstatic, class, name, d), "")
			doesNot(t, w, m, named(api.OpPutstatic, class, name, d), value)
		}
	}
	// Above the class where it stands, in another one, of another name and type.
	for _, x := range [][3]string{{"A", "i", "J"}, {"A", "sb2", "LB;"}, {"Object", "i", "I"}, {"X", "i", "I"}, {"Own", "i", "I"}, {"", "i", "I"}, {"A", "I", "i"}, {"A", "ii", "I"}, {"A", "", "I"}, {"A", "i", ""}, {"A", "run", "()V"}, {"LA;", "i", "I"}, {"[A", "i", "I"}} {
		for _, op := range []byte{api.OpGetfield, api.OpPutfield, api.OpGetstatic, api.OpPutstatic} {
			for _, stack := range []string{"", "N", "N,I", "N,J,-", "I", "J,-", "LA;,I"} {
				doesNot(t, w, m, named(op, x[0], x[1], x[2]), stack)
			}
		}
	}
}

// TestMethodsThatAreCalled are there, stand in a superclass, are static and aren't.
func TestMethodsThatAreCalled(t *testing.T) {
	w, m := world(t), api.Method{Stack: 2}
	for _, class := range []string{"A", "B", "x/C"} {
		this := "L" + class + ";"
		for _, x := range [][4]string{{"run", "()V", "", ""}, {"get", "(IJ)I", ",I,J,-", "I"}, {"own", "(LA;[I)LB;", ",Lx/C;,[I", "LB;"}, {"far", "()J", "", "J,-"}} {
			does(t, w, m, named(api.OpInvokevirtual, class, x[0], x[1]), this+x[2], x[3])
			does(t, w, m, named(api.OpInvokevirtual, class, x[0], x[1]), "N"+x[2], x[3])
			does(t, w, m, named(api.OpInvokevirtual, class, x[0], x[1]), "Lx/C;"+x[2], x[3])
			doesNot(t, w, m, named(api.OpInvokevirtual, class, x[0], x[1]), "LObject;"+x[2])
			doesNot(t, w, m, named(api.OpInvokevirtual, class, x[0], x[1]), strings.TrimPrefix(x[2], ","))
			doesNot(t, w, m, named(api.OpInvokestatic, class, x[0], x[1]), this+x[2])
			doesNot(t, w, m, named(api.OpInvokestatic, class, x[0], x[1]), strings.TrimPrefix(x[2], ","))
		}
		for _, x := range [][4]string{{"srun", "()V", "", ""}, {"sget", "(JI)J", "J,-,I", "J,-"}, {"sown", "([LA;LB;)[LB;", "[Lx/C;,N", "[LB;"}, {"sint", "(I)I", "I", "I"}} {
			does(t, w, m, named(api.OpInvokestatic, class, x[0], x[1]), x[2], x[3])
			doesNot(t, w, m, named(api.OpInvokevirtual, class, x[0], x[1]), x[2])
			doesNot(t, w, m, named(api.OpInvokevirtual, class, x[0], x[1]), this+","+x[2])
		}
	}
	does(t, w, m, named(api.OpInvokevirtual, "B", "get", "(I)V"), "LB;,I", "")
	doesNot(t, w, m, named(api.OpInvokevirtual, "A", "get", "(I)V"), "LB;,I")
	for _, x := range [][3]string{{"A", "run", "()I"}, {"A", "run", "(I)V"}, {"Object", "run", "()V"}, {"X", "run", "()V"}, {"", "run", "()V"}, {"A", "", "()V"}, {"A", "run", ""}, {"A", "i", "I"}, {"A", "()V", "run"}, {"LA;", "run", "()V"}, {"[LA;", "run", "()V"}, {"A", "print", "(I)V"}, {"sys", "print", "(J)V"}, {"sys", "count", "()V"}} {
		for _, stack := range []string{"", "LA;", "LA;,I", "I", "N", "J,-"} {
			doesNot(t, w, m, named(api.OpInvokestatic, x[0], x[1], x[2]), stack)
			doesNot(t, w, m, named(api.OpInvokevirtual, x[0], x[1], x[2]), stack)
		}
	}
	for _, x := range [][4]string{{"print", "(I)V", "I", ""}, {"printLong", "(J)V", "J,-", ""}, {"printText", "([B)V", "[B", ""}, {"add", "([B)I", "[B", "I"}, {"get", "(I)[B", "I", "[B"}, {"set", "(I[B)V", "I,N", ""}, {"del", "(I)V", "I", ""}, {"count", "()I", "", "I"}} {
		does(t, w, m, named(api.OpInvokestatic, "sys", x[0], x[1]), x[2], x[3])
		doesNot(t, w, m, named(api.OpInvokevirtual, "sys", x[0], x[1]), strings.TrimSuffix("Lsys;,"+x[2], ","))
	}
	// So much room is asked for as stands there behind the call.
	for stack := range 5 {
		is := map[bool]func(testing.TB, api.Ins, string, string){true: func(t testing.TB, x api.Ins, before, after string) {
			does(t, w, api.Method{Stack: stack}, x, before, after)
		}, false: func(t testing.TB, x api.Ins, before, _ string) { doesNot(t, w, api.Method{Stack: stack}, x, before) }}
		is[stack >= 2](t, named(api.OpInvokevirtual, "A", "far", "()J"), "LA;", "J,-")
		is[stack >= 3](t, named(api.OpInvokestatic, "A", "sget", "(JI)J"), "N,J,-,I", "N,J,-")
		is[true](t, named(api.OpInvokevirtual, "A", "run", "()V"), "N,N,LA;", "N,N")
	}
}

// TestObjectsAndArrays are of classes that are there and aren't, of arrays, of texts that are none.
func TestObjectsAndArrays(t *testing.T) {
	w, m := world(t), api.Method{Stack: 1}
	nine := strings.Repeat("[", 9)
	for _, class := range []string{"A", "B", "x/C", "Own", "Object", "Throwable", "sys", "StoreFault"} {
		does(t, w, m, of(api.OpNew, class), "", "L"+class+";")
		does(t, w, m, of(api.OpCheckcast, class), "N", "L"+class+";")
		does(t, w, m, of(api.OpInstanceof, class), "[I", "I")
		does(t, w, m, of(api.OpAnewarray, class), "I", "[L"+class+";")
		doesNot(t, w, api.Method{}, of(api.OpNew, class), "")
	}
	for _, array := range []string{"[I", "[B", "[LA;", "[[Lx/C;", "[[B", nine[2:] + "I", nine[2:] + "LA;"} {
		doesNot(t, w, m, of(api.OpNew, array), "")
		does(t, w, m, of(api.OpCheckcast, array), "LA;", array)
		does(t, w, m, of(api.OpInstanceof, array), "LX;", "I")
		does(t, w, m, of(api.OpAnewarray, array), "I", "["+array)
	}
	// Of so many dimensions there may be an array, but none of them.
	for _, array := range []string{nine[1:] + "I", nine[1:] + "B", nine[1:] + "LOwn;"} {
		does(t, w, m, of(api.OpCheckcast, array), "N", array)
		does(t, w, m, of(api.OpInstanceof, array), "N", "I")
		doesNot(t, w, m, of(api.OpAnewarray, array), "I")
	}
	for _, none := range []string{"", "X", "a", "C", "x/", "LA;", "LX;", "L", "I", "J", "V", "N", "T", "A;", "A B", "[", "[[", "[J", "[V", "[N", "[T", "[A", "[LX;", "[[LX;", "[L;", "[LA", "[LA;;", "[I[", nine + "I", nine + "LA;", "[()V", "object", "\x00"} {
		doesNot(t, w, m, of(api.OpNew, none), "")
		doesNot(t, w, m, of(api.OpCheckcast, none), "N")
		doesNot(t, w, m, of(api.OpInstanceof, none), "N")
		doesNot(t, w, m, of(api.OpAnewarray, none), "I")
	}
}

// TestKindsOfNewarray has each number.
func TestKindsOfNewarray(t *testing.T) {
	w, m := world(t), api.Method{Stack: 1}
	for n := int64(-300); n < 300; n++ {
		switch n {
		case 8:
			does(t, w, m, at(api.OpNewarray, n), "I", "[B")
		case 10:
			does(t, w, m, at(api.OpNewarray, n), "I", "[I")
		default:
			doesNot(t, w, m, at(api.OpNewarray, n), "I")
		}
	}
	for _, n := range []int64{1<<32 + 8, 1<<32 + 10, 1<<8 + 8, math.MinInt64 + 8, math.MaxInt64, math.MinInt64} {
		doesNot(t, w, m, at(api.OpNewarray, n), "I")
	}
}

// TestTheExample is the chapter's.
func TestTheExample(t *testing.T) {
	w := world(t)
	doesNot(t, w, api.Method{Stack: 64}, at(api.OpIadd, 0), "")
	m := api.Method{Static: true, Desc: "()I", Stack: 2, Code: code(api.OpIadd, api.OpIreturn)}
	answers(t, w, "A", m, api.ErrType)
	m.Code = code(api.OpIconst5, api.OpIconst5, api.OpIadd, api.OpIreturn)
	answers(t, w, "A", m, api.OK, frame("", ""), frame("", "I"), frame("", "I,I"), frame("", "I"))
}
