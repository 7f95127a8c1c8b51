package ops_test

import (
	"testing"

	"carpetbag/api"
	"carpetbag/ops"
)

// P13.1: what Form and Len answer.

func TestEachByte(t *testing.T) {
	there := 0
	for op := range 256 {
		if got, wanted := ops.Form(byte(op)), modelForm(op); got != wanted {
			t.Errorf("Form(%d): %d, not %d", op, got, wanted)
		}
		if got, wanted := ops.Len(byte(op)), modelLen(op); got != wanted {
			t.Errorf("Len(%d): %d, not %d", op, got, wanted)
		}
		if ops.Form(byte(op)) != 0 {
			there++
		}
	}
	// As many as the chapter lists, the seven of OpIconstM1 to OpIconst5 one by one.
	if there != 93 {
		t.Errorf("there are %d operations", there)
	}
}

// TestNamedOperations asks api's names, which the model doesn't know.
func TestNamedOperations(t *testing.T) {
	for _, x := range []struct {
		form, size int
		ops        []byte
	}{
		{api.FormNone, 1, []byte{api.OpNop, api.OpNull, api.OpIconstM1, api.OpIconst5, api.OpLconst0, api.OpLconst1, api.OpIaload, api.OpAaload, api.OpBaload, api.OpIastore, api.OpAastore, api.OpBastore, api.OpPop, api.OpDup, api.OpSwap, api.OpIadd, api.OpLadd, api.OpIsub, api.OpLsub, api.OpImul, api.OpLmul, api.OpIdiv, api.OpLdiv, api.OpIrem, api.OpLrem, api.OpIneg, api.OpLneg, api.OpIshl, api.OpLshl, api.OpIshr, api.OpLshr, api.OpIushr, api.OpLushr, api.OpIand, api.OpLand, api.OpIor, api.OpLor, api.OpIxor, api.OpLxor, api.OpI2l, api.OpL2i, api.OpI2b, api.OpLcmp, api.OpIreturn, api.OpLreturn, api.OpAreturn, api.OpReturn, api.OpArraylength, api.OpAthrow}},
		{api.FormLocal, 2, []byte{api.OpIload, api.OpLload, api.OpAload, api.OpIstore, api.OpLstore, api.OpAstore}},
		{api.FormByte, 2, []byte{api.OpBipush}},
		{api.FormShort, 3, []byte{api.OpSipush}},
		{api.FormConst, 2, []byte{api.OpLdc}},
		{api.FormWide, 3, []byte{api.OpLdc2, api.OpGetstatic, api.OpPutstatic, api.OpGetfield, api.OpPutfield, api.OpInvokevirtual, api.OpInvokestatic, api.OpNew, api.OpAnewarray, api.OpCheckcast, api.OpInstanceof}},
		{api.FormBranch, 3, []byte{api.OpIfeq, api.OpIfne, api.OpIflt, api.OpIfge, api.OpIfgt, api.OpIfle, api.OpIcmpeq, api.OpIcmpne, api.OpIcmplt, api.OpIcmpge, api.OpIcmpgt, api.OpIcmple, api.OpAcmpeq, api.OpAcmpne, api.OpGoto, api.OpIfnull, api.OpIfnonnull}},
		{api.FormInc, 3, []byte{api.OpIinc}},
		{api.FormArray, 2, []byte{api.OpNewarray}},
		{0, 0, []byte{api.OpText, 11, 15, 19, 23, 24, 26, 45, 47, 49, 52, 53, 56, 57, 59, 78, 80, 82, 85, 86, 88, 90, 94, 98, 99, 102, 118, 119, 134, 135, 137, 144, 146, 147, 149, 152, 168, 171, 174, 175, 183, 185, 186, 194, 197, 200, 201, 202, 239, 241, 254, 255}},
	} {
		for _, op := range x.ops {
			if form, size := ops.Form(op), ops.Len(op); form != x.form || size != x.size {
				t.Errorf("operation %d: form %d, %d bytes, not form %d, %d bytes", op, form, size, x.form, x.size)
			}
		}
	}
}
