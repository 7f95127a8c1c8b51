package verify_test

import (
	"math"
	"slices"
	"strings"
	"testing"

	"carpetbag/api"
	"carpetbag/verify"
)

// P19.1: Step.

// row is an instruction, of a method with a description, and the stack ahead of it and behind it.
type row struct {
	x             api.Ins
	before, after string
	desc          string
}

// tableRows have each operation.
func tableRows() []row {
	l := []row{
		{x: at(api.OpNop, 0)}, {x: at(api.OpGoto, 0)}, {x: at(api.OpNull, 0), after: "N"},
		{x: at(api.OpBipush, 7), after: "I"}, {x: at(api.OpSipush, 7), after: "I"}, {x: at(api.OpLconst0, 0), after: "J,-"}, {x: at(api.OpLconst1, 0), after: "J,-"},
		{x: api.Ins{Op: api.OpLdc, N: 9, Desc: "I"}, after: "I"}, {x: api.Ins{Op: api.OpLdc, Text: "x", Desc: "S"}, after: "[B"}, {x: api.Ins{Op: api.OpLdc2, Desc: "J"}, after: "J,-"},
		{x: at(api.OpIload, 0), after: "I"}, {x: at(api.OpLload, 1), after: "J,-"}, {x: at(api.OpAload, 4), after: "N"}, {x: at(api.OpAload, 5), after: "LA;"}, {x: at(api.OpAload, 6), after: "[I"},
		{x: at(api.OpIstore, 0), before: "I"}, {x: at(api.OpLstore, 1), before: "J,-"}, {x: at(api.OpAstore, 5), before: "LA;"}, {x: at(api.OpIinc, 0)},
		{x: at(api.OpIaload, 0), before: "[I,I", after: "I"}, {x: at(api.OpIaload, 0), before: "N,I", after: "I"}, {x: at(api.OpBaload, 0), before: "[B,I", after: "I"}, {x: at(api.OpBaload, 0), before: "N,I", after: "I"},
		{x: at(api.OpAaload, 0), before: "[LA;,I", after: "LA;"}, {x: at(api.OpAaload, 0), before: "[[I,I", after: "[I"}, {x: at(api.OpAaload, 0), before: "[[LB;,I", after: "[LB;"}, {x: at(api.OpAaload, 0), before: "N,I", after: "N"},
		{x: at(api.OpIastore, 0), before: "[I,I,I"}, {x: at(api.OpIastore, 0), before: "N,I,I"}, {x: at(api.OpBastore, 0), before: "[B,I,I"}, {x: at(api.OpBastore, 0), before: "N,I,I"},
		{x: at(api.OpAastore, 0), before: "[LB;,I,LA;"}, {x: at(api.OpAastore, 0), before: "[[I,I,N"}, {x: at(api.OpAastore, 0), before: "N,I,[I"},
		{x: at(api.OpPop, 0), before: "I"}, {x: at(api.OpPop, 0), before: "N"}, {x: at(api.OpPop, 0), before: "LA;"}, {x: at(api.OpPop, 0), before: "[I"},
		{x: at(api.OpDup, 0), before: "I", after: "I,I"}, {x: at(api.OpDup, 0), before: "LB;", after: "LB;,LB;"}, {x: at(api.OpSwap, 0), before: "I,N", after: "N,I"}, {x: at(api.OpSwap, 0), before: "[I,LA;", after: "LA;,[I"},
		{x: at(api.OpIneg, 0), before: "I", after: "I"}, {x: at(api.OpI2b, 0), before: "I", after: "I"}, {x: at(api.OpLneg, 0), before: "J,-", after: "J,-"},
		{x: at(api.OpI2l, 0), before: "I", after: "J,-"}, {x: at(api.OpL2i, 0), before: "J,-", after: "I"}, {x: at(api.OpLcmp, 0), before: "J,-,J,-", after: "I"},
		{x: at(api.OpAcmpeq, 0), before: "LA;,N"}, {x: at(api.OpAcmpne, 0), before: "[I,LB;"}, {x: at(api.OpIfnull, 0), before: "LA;"}, {x: at(api.OpIfnonnull, 0), before: "N"},
		{x: at(api.OpIreturn, 0), before: "I", desc: "()I"}, {x: at(api.OpLreturn, 0), before: "J,-", desc: "(I)J"}, {x: at(api.OpAreturn, 0), before: "LB;", desc: "()LA;"}, {x: at(api.OpAreturn, 0), before: "N", desc: "()[B"}, {x: at(api.OpReturn, 0), desc: "(J)V"},
		{x: named(api.OpGetstatic, "A", "si", "I"), after: "I"}, {x: named(api.OpGetstatic, "A", "sj", "J"), after: "J,-"}, {x: named(api.OpGetstatic, "B", "sa", "LA;"), after: "LA;"},
		{x: named(api.OpPutstatic, "A", "si", "I"), before: "I"}, {x: named(api.OpPutstatic, "x/C", "sj", "J"), before: "J,-"}, {x: named(api.OpPutstatic, "A", "sa", "LA;"), before: "Lx/C;"}, {x: named(api.OpPutstatic, "A", "sb", "[B"), before: "N"},
		{x: named(api.OpGetfield, "A", "i", "I"), before: "LA;", after: "I"}, {x: named(api.OpGetfield, "A", "j", "J"), before: "LB;", after: "J,-"}, {x: named(api.OpGetfield, "B", "b", "[B"), before: "N", after: "[B"}, {x: named(api.OpGetfield, "B", "i", "J"), before: "Lx/C;", after: "J,-"}, {x: named(api.OpGetfield, "B", "i", "I"), before: "LB;", after: "I"},
		{x: named(api.OpPutfield, "A", "i", "I"), before: "LA;,I"}, {x: named(api.OpPutfield, "A", "j", "J"), before: "LB;,J,-"}, {x: named(api.OpPutfield, "x/C", "a", "LA;"), before: "N,LB;"},
		{x: named(api.OpInvokestatic, "A", "srun", "()V")}, {x: named(api.OpInvokestatic, "B", "sget", "(JI)J"), before: "J,-,I", after: "J,-"}, {x: named(api.OpInvokestatic, "A", "sown", "([LA;LB;)[LB;"), before: "[LB;,N", after: "[LB;"}, {x: named(api.OpInvokestatic, "sys", "print", "(I)V"), before: "I"}, {x: named(api.OpInvokestatic, "sys", "count", "()I"), after: "I"},
		{x: named(api.OpInvokevirtual, "A", "run", "()V"), before: "LA;"}, {x: named(api.OpInvokevirtual, "B", "get", "(IJ)I"), before: "Lx/C;,I,J,-", after: "I"}, {x: named(api.OpInvokevirtual, "A", "own", "(LA;[I)LB;"), before: "LB;,LB;,[I", after: "LB;"}, {x: named(api.OpInvokevirtual, "A", "far", "()J"), before: "N", after: "J,-"},
		{x: of(api.OpNew, "A"), after: "LA;"}, {x: of(api.OpNew, "x/C"), after: "Lx/C;"}, {x: of(api.OpNew, "Object"), after: "LObject;"},
		{x: at(api.OpNewarray, 8), before: "I", after: "[B"}, {x: at(api.OpNewarray, 10), before: "I", after: "[I"},
		{x: of(api.OpAnewarray, "A"), before: "I", after: "[LA;"}, {x: of(api.OpAnewarray, "[I"), before: "I", after: "[[I"}, {x: of(api.OpAnewarray, "[[Lx/C;"), before: "I", after: "[[[Lx/C;"},
		{x: at(api.OpArraylength, 0), before: "N", after: "I"}, {x: at(api.OpArraylength, 0), before: "[B", after: "I"}, {x: at(api.OpArraylength, 0), before: "[[LA;", after: "I"},
		{x: at(api.OpAthrow, 0), before: "LThrowable;"}, {x: at(api.OpAthrow, 0), before: "LOwn;"}, {x: at(api.OpAthrow, 0), before: "N"},
		{x: of(api.OpCheckcast, "B"), before: "LA;", after: "LB;"}, {x: of(api.OpCheckcast, "[I"), before: "N", after: "[I"}, {x: of(api.OpCheckcast, "Own"), before: "[I", after: "LOwn;"},
		{x: of(api.OpInstanceof, "B"), before: "LA;", after: "I"}, {x: of(api.OpInstanceof, "[[B"), before: "[I", after: "I"},
	}
	for op := api.OpIconstM1; op <= api.OpIconst5; op++ {
		l = append(l, row{x: at(byte(op), 0), after: "I"})
	}
	for _, op := range []byte{api.OpIadd, api.OpIsub, api.OpImul, api.OpIdiv, api.OpIrem, api.OpIshl, api.OpIshr, api.OpIushr, api.OpIand, api.OpIor, api.OpIxor} {
		l = append(l, row{x: at(op, 0), before: "I,I", after: "I"})
	}
	for _, op := range []byte{api.OpLadd, api.OpLsub, api.OpLmul, api.OpLdiv, api.OpLrem, api.OpLand, api.OpLor, api.OpLxor} {
		l = append(l, row{x: at(op, 0), before: "J,-,J,-", after: "J,-"})
	}
	for _, op := range []byte{api.OpLshl, api.OpLshr, api.OpLushr} {
		l = append(l, row{x: at(op, 0), before: "J,-,I", after: "J,-"})
	}
	for _, op := range []byte{api.OpIfeq, api.OpIfne, api.OpIflt, api.OpIfge, api.OpIfgt, api.OpIfle} {
		l = append(l, row{x: at(op, 0), before: "I"})
	}
	for _, op := range []byte{api.OpIcmpeq, api.OpIcmpne, api.OpIcmplt, api.OpIcmpge, api.OpIcmpgt, api.OpIcmple} {
		l = append(l, row{x: at(op, 0), before: "I,I"})
	}
	return l
}

// method is one of the row's kind, with so much Stack.
func (r row) method(stack int) api.Method { return api.Method{Desc: r.desc, Stack: stack, Locals: 7} }

func TestEachRowOfTheTable(t *testing.T) {
	w := world(t)
	for _, r := range tableRows() {
		need := len(list(r.after))
		for _, stack := range []int{need, need + 1, 64, math.MaxInt} {
			does(t, w, r.method(stack), r.x, r.before, r.after)
		}
		// What stands beneath it stays.
		for _, beneath := range []string{"I", "J,-", "T", "-", "N,J", "LX;"} {
			join := func(s string) string { return strings.TrimSuffix(beneath+","+s, ",") }
			does(t, w, r.method(need+2), r.x, join(r.before), join(r.after))
		}
		if need > 0 {
			for _, stack := range []int{need - 1, 0, -1, math.MinInt} {
				doesNot(t, w, r.method(stack), r.x, r.before)
			}
		} else {
			does(t, w, r.method(-1), r.x, r.before, r.after)
		}
		// One place too few, at the bottom or at the top.
		if l := list(r.before); len(l) > 0 {
			doesNot(t, w, r.method(9), r.x, strings.Join(l[1:], ","))
			doesNot(t, w, r.method(9), r.x, strings.Join(l[:len(l)-1], ","))
			doesNot(t, w, r.method(9), r.x, "")
		}
	}
}

func TestTheTableHasEachOperation(t *testing.T) {
	has := map[byte]int{}
	for _, r := range tableRows() {
		has[r.x.Op]++
	}
	for _, op := range operations() {
		if has[op] == 0 {
			t.Errorf("no row has %d", op)
		}
	}
	if len(has) != len(operations()) {
		t.Errorf("%d operations", len(has))
	}
}

// kinds are places of each kind.
func kinds() []string {
	return []string{"I", "J", "J,-", "-", "N", "T", "LA;", "LB;", "Lx/C;", "LObject;", "LThrowable;", "LOwn;", "LX;", "[I", "[B", "[LA;", "[LB;", "[LX;", "[[I", "V", "A", "1", ""}
}

// TestOtherKindsOfPlaces has each place that is taken be of each other kind.
func TestOtherKindsOfPlaces(t *testing.T) {
	got := map[bool]int{}
	for _, w := range worlds(t) {
		for _, r := range tableRows() {
			l := list(r.before)
			for i := range l {
				for _, kind := range kinds() {
					places := list(kind)
					if kind == "" {
						places = []string{""}
					}
					f := frame("I,J,-,T,N,LA;,[I", "")
					f.Stack = slices.Concat(l[:i], places, l[i+1:])
					got[steps(t, w, r.method(9), f, r.x)]++
				}
			}
		}
	}
	if got[true] < 200 || got[false] < 2000 {
		t.Errorf("but %v", got)
	}
}

// TestOtherKindsWrittenOut are some of these.
func TestOtherKindsWrittenOut(t *testing.T) {
	w, m := world(t), api.Method{Desc: "()I", Stack: 9}
	for _, r := range []row{
		{x: at(api.OpIadd, 0), before: "I,N"}, {x: at(api.OpIadd, 0), before: "J,-"}, {x: at(api.OpIadd, 0), before: "T,I"}, {x: at(api.OpLadd, 0), before: "I,I,I,I"}, {x: at(api.OpLadd, 0), before: "J,-,I"}, {x: at(api.OpLadd, 0), before: "J,J"},
		{x: at(api.OpLshl, 0), before: "J,-,J,-"}, {x: at(api.OpLshl, 0), before: "I,I"}, {x: at(api.OpIshl, 0), before: "I,J,-"}, {x: at(api.OpLcmp, 0), before: "J,-,I"}, {x: at(api.OpLcmp, 0), before: "I,J,-"},
		{x: at(api.OpPop, 0), before: "J,-"}, {x: at(api.OpPop, 0), before: "J"}, {x: at(api.OpPop, 0), before: "T"}, {x: at(api.OpPop, 0), before: "-"}, {x: at(api.OpDup, 0), before: "J,-"}, {x: at(api.OpDup, 0), before: "T"}, {x: at(api.OpSwap, 0), before: "J,-"}, {x: at(api.OpSwap, 0), before: "J,-,I"}, {x: at(api.OpSwap, 0), before: "I,J,-"}, {x: at(api.OpSwap, 0), before: "I,T"},
		{x: at(api.OpIaload, 0), before: "[B,I"}, {x: at(api.OpIaload, 0), before: "[[I,I"}, {x: at(api.OpIaload, 0), before: "[I,N"}, {x: at(api.OpBaload, 0), before: "[I,I"}, {x: at(api.OpBastore, 0), before: "[I,I,I"}, {x: at(api.OpIastore, 0), before: "[B,I,I"}, {x: at(api.OpIastore, 0), before: "LObject;,I,I"},
		{x: at(api.OpAaload, 0), before: "[I,I"}, {x: at(api.OpAaload, 0), before: "[B,I"}, {x: at(api.OpAaload, 0), before: "LA;,I"}, {x: at(api.OpAaload, 0), before: "LObject;,I"}, {x: at(api.OpAaload, 0), before: "I,I"}, {x: at(api.OpAaload, 0), before: "[LA;,N"},
		{x: at(api.OpAastore, 0), before: "[I,I,N"}, {x: at(api.OpAastore, 0), before: "[B,I,LA;"}, {x: at(api.OpAastore, 0), before: "LA;,I,LA;"}, {x: at(api.OpAastore, 0), before: "[LA;,I,I"}, {x: at(api.OpAastore, 0), before: "[LA;,N,N"},
		{x: at(api.OpArraylength, 0), before: "LA;"}, {x: at(api.OpArraylength, 0), before: "LObject;"}, {x: at(api.OpArraylength, 0), before: "I"}, {x: at(api.OpAthrow, 0), before: "LA;"}, {x: at(api.OpAthrow, 0), before: "LObject;"}, {x: at(api.OpAthrow, 0), before: "[I"},
		{x: at(api.OpAcmpeq, 0), before: "N,I"}, {x: at(api.OpAcmpne, 0), before: "I,N"}, {x: at(api.OpIfnull, 0), before: "I"}, {x: at(api.OpIfnonnull, 0), before: "T"}, {x: at(api.OpIfeq, 0), before: "N"}, {x: at(api.OpIcmpgt, 0), before: "J,-"},
		{x: at(api.OpIstore, 0), before: "N"}, {x: at(api.OpLstore, 1), before: "I,I"}, {x: at(api.OpAstore, 0), before: "I"}, {x: at(api.OpAstore, 0), before: "T"}, {x: at(api.OpIreturn, 0), before: "J,-"},
		{x: named(api.OpPutstatic, "A", "sa", "LA;"), before: "LObject;"}, {x: named(api.OpPutstatic, "A", "sj", "J"), before: "I"}, {x: named(api.OpGetfield, "B", "i", "J"), before: "LA;"}, {x: named(api.OpPutfield, "A", "i", "I"), before: "I,LA;"}, {x: named(api.OpPutfield, "B", "i", "J"), before: "LA;,J,-"},
		{x: named(api.OpInvokestatic, "A", "sget", "(JI)J"), before: "I,J,-"}, {x: named(api.OpInvokevirtual, "B", "run", "()V"), before: "LA;"}, {x: named(api.OpInvokevirtual, "A", "own", "(LA;[I)LB;"), before: "LA;,[I,LA;"}, {x: named(api.OpInvokevirtual, "A", "run", "()V"), before: "[LA;"},
		{x: of(api.OpCheckcast, "A"), before: "I"}, {x: of(api.OpInstanceof, "A"), before: "I"}, {x: at(api.OpNewarray, 8), before: "N"}, {x: of(api.OpAnewarray, "A"), before: "J,-"},
	} {
		doesNot(t, w, m, r.x, r.before)
	}
}

// TestRowsOfAllKinds are what stands in arrays of each kind.
func TestRowsOfAllKinds(t *testing.T) {
	w, m := world(t), api.Method{Stack: 9}
	nine := strings.Repeat("[", 9)
	for array, item := range map[string]string{"N": "N", "[LA;": "LA;", "[LX;": "LX;", "[[B": "[B", "[[[LX;": "[[LX;", nine[1:] + "I": nine[2:] + "I", "[LObject;": "LObject;"} {
		does(t, w, m, at(api.OpAaload, 0), array+",I", item)
		for _, value := range []string{"N", "LA;", "LX;", "[I", "[[LX;"} {
			does(t, w, m, at(api.OpAastore, 0), array+",I,"+value, "")
		}
		does(t, w, m, at(api.OpArraylength, 0), array, "I")
	}
	for _, no := range []string{"[I", "[B", "[J", "[", "[V", "LA;", "LX;", "L", "I", "T", "-", "J,-", "A"} {
		doesNot(t, w, m, at(api.OpAaload, 0), no+",I")
		doesNot(t, w, m, at(api.OpAastore, 0), no+",I,N")
	}
}

// TestEachByteOfEachShortStack asks all bytes, with all stacks of up to three places.
func TestEachByteOfEachShortStack(t *testing.T) {
	places := []string{"I", "J", "-", "N", "T", "LThrowable;", "[I", "[[B", "LX;"}
	stacks := [][]string{nil}
	for from, n := 0, 0; n < 3; n++ {
		to := len(stacks)
		for ; from < to; from++ {
			for _, s := range places {
				stacks = append(stacks, append(slices.Clone(stacks[from]), s))
			}
		}
	}
	got := map[bool]int{}
	for _, w := range worlds(t) {
		for op := range 256 {
			for i, stack := range stacks {
				m := api.Method{Stack: 2 + i%2, Desc: []string{"()V", "()I", "()J", "()LObject;", "()[I"}[i%5]}
				x := api.Ins{Op: byte(op), N: int64(i % 12), Class: "Throwable", Desc: "S"}
				got[steps(t, w, m, api.Frame{Locals: list("J,-,I,N,T,LX;,[I"), Stack: stack}, x)]++
			}
		}
	}
	if got[true] < 5000 || got[false] < 50000 {
		t.Errorf("but %v", got)
	}
}

// TestBytesThatAreNoOperation can't be typed, whatever stands on the stack.
func TestBytesThatAreNoOperation(t *testing.T) {
	w, n := world(t), 0
	for op := range 256 {
		if slices.Contains(operations(), byte(op)) {
			continue
		}
		n++
		for _, stack := range []string{"", "I", "I,I", "J,-,J,-", "N,N", "[I,I,I", "LA;"} {
			doesNot(t, w, api.Method{Stack: 9, Desc: "()V"}, api.Ins{Op: byte(op), N: 8, Class: "A", Name: "i", Desc: "I"}, stack)
		}
	}
	if n != 256-len(operations()) || n < 100 {
		t.Error(n)
	}
}

// TestWhatAnInstructionHasBesides is of no effect.
func TestWhatAnInstructionHasBesides(t *testing.T) {
	w := world(t)
	for _, r := range tableRows() {
		x := r.x
		x.M, x.Text = -7, "more"
		does(t, w, r.method(9), x, r.before, r.after)
		switch {
		case x.Op == api.OpNewarray || slices.Contains([]byte{21, 22, 25, 54, 55, 58, 132}, x.Op):
			x.Class, x.Name, x.Desc = "more", "more", "more"
		case x.Op == api.OpLdc:
			x.N, x.Class, x.Name = math.MinInt64, "more", "more"
		case x.Op >= api.OpGetstatic && x.Op <= api.OpInvokestatic:
			x.N = math.MaxInt64
		case x.Class != "":
			x.N, x.Name, x.Desc = math.MinInt64, "more", "more"
		default:
			x.N, x.Class, x.Name, x.Desc = math.MaxInt64, "more", "more", "more"
		}
		does(t, w, r.method(9), x, r.before, r.after)
		m := r.method(9)
		m.Locals, m.Static, m.Name, m.Code = -5, true, "more", code(1, 2)
		does(t, w, m, r.x, r.before, r.after)
	}
}

func TestStepWithoutAWorld(t *testing.T) {
	m := api.Method{Stack: 9, Desc: "()[I"}
	for _, r := range []row{
		{x: at(api.OpNop, 0)}, {x: at(api.OpIadd, 0), before: "I,I", after: "I"}, {x: at(api.OpIaload, 0), before: "[I,I", after: "I"}, {x: at(api.OpAaload, 0), before: "[LX;,I", after: "LX;"}, {x: at(api.OpAload, 5), after: "LA;"},
		{x: at(api.OpAreturn, 0), before: "[I"}, {x: of(api.OpCheckcast, "[I"), before: "LX;", after: "[I"}, {x: of(api.OpInstanceof, "[B"), before: "N", after: "I"}, {x: of(api.OpAnewarray, "[I"), before: "I", after: "[[I"}, {x: at(api.OpNewarray, 8), before: "I", after: "[B"},
	} {
		does(t, nil, m, r.x, r.before, r.after)
	}
	for _, r := range []row{
		{x: of(api.OpNew, "Object")}, {x: of(api.OpCheckcast, "Object"), before: "N"}, {x: of(api.OpInstanceof, "Object"), before: "N"}, {x: of(api.OpAnewarray, "Object"), before: "I"}, {x: at(api.OpAthrow, 0), before: "LThrowable;"}, {x: at(api.OpAthrow, 0), before: "N"},
		{x: named(api.OpInvokestatic, "sys", "count", "()I")}, {x: named(api.OpGetstatic, "A", "si", "I")}, {x: named(api.OpGetfield, "A", "i", "I"), before: "LA;"}, {x: named(api.OpInvokevirtual, "A", "run", "()V"), before: "LA;"},
	} {
		doesNot(t, nil, m, r.x, r.before)
	}
}

// TestFarArguments are beyond all that a code may have.
func TestFarArguments(t *testing.T) {
	w := world(t)
	many := slices.Repeat([]string{"J", "-"}, 200000)
	f := api.Frame{Locals: many, Stack: many}
	if got, ok := verify.Step(w, api.Method{Stack: math.MaxInt}, f, at(api.OpLadd, 0)); !ok || len(got.Stack) != len(many)-2 || len(got.Locals) != len(many) {
		t.Error(ok, len(got.Stack))
	}
	if got, ok := verify.Step(w, api.Method{Stack: math.MaxInt}, f, at(api.OpLload, int64(len(many)-2))); !ok || len(got.Stack) != len(many)+2 {
		t.Error(ok, len(got.Stack))
	}
	long := strings.Repeat("[", 1<<20)
	for _, s := range []string{long, long + "I", "L" + long + ";", long + "LA;", strings.Repeat("A", 1<<20)} {
		for _, op := range []byte{api.OpNew, api.OpAnewarray, api.OpCheckcast, api.OpInstanceof, api.OpInvokestatic, api.OpInvokevirtual, api.OpGetfield, api.OpPutstatic} {
			doesNot(t, w, api.Method{Stack: 9}, api.Ins{Op: op, Class: s, Name: s, Desc: s}, "I,N")
		}
		doesNot(t, w, api.Method{Stack: 9, Desc: s}, at(api.OpAreturn, 0), "N")
	}
	does(t, w, api.Method{Stack: 9}, at(api.OpAaload, 0), long+"I,I", long[1:]+"I")
	does(t, w, api.Method{Stack: 9}, at(api.OpArraylength, 0), long, "I")
}
