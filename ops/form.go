package ops

import (
	"carpetbag/api"
)

// none is the form of a byte that is no operation.
const none = 0

// span is operations whose numbers follow one another, all of one form.
type span struct{ first, last, form byte }

// spans are all operations, by their numbers.
var spans = [...]span{
	{api.OpNop, api.OpLconst1, api.FormNone},
	{api.OpBipush, api.OpBipush, api.FormByte},
	{api.OpSipush, api.OpSipush, api.FormShort},
	{api.OpLdc, api.OpLdc, api.FormConst},
	{api.OpLdc2, api.OpLdc2, api.FormWide},
	{api.OpIload, api.OpLload, api.FormLocal},
	{api.OpAload, api.OpAload, api.FormLocal},
	{api.OpIaload, api.OpIaload, api.FormNone},
	{api.OpAaload, api.OpBaload, api.FormNone},
	{api.OpIstore, api.OpLstore, api.FormLocal},
	{api.OpAstore, api.OpAstore, api.FormLocal},
	{api.OpIastore, api.OpIastore, api.FormNone},
	{api.OpAastore, api.OpBastore, api.FormNone},
	{api.OpPop, api.OpPop, api.FormNone},
	{api.OpDup, api.OpDup, api.FormNone},
	{api.OpSwap, api.OpLadd, api.FormNone},
	{api.OpIsub, api.OpLsub, api.FormNone},
	{api.OpImul, api.OpLmul, api.FormNone},
	{api.OpIdiv, api.OpLdiv, api.FormNone},
	{api.OpIrem, api.OpLrem, api.FormNone},
	{api.OpIneg, api.OpLneg, api.FormNone},
	{api.OpIshl, api.OpLxor, api.FormNone},
	{api.OpIinc, api.OpIinc, api.FormInc},
	{api.OpI2l, api.OpI2l, api.FormNone},
	{api.OpL2i, api.OpL2i, api.FormNone},
	{api.OpI2b, api.OpI2b, api.FormNone},
	{api.OpLcmp, api.OpLcmp, api.FormNone},
	{api.OpIfeq, api.OpGoto, api.FormBranch},
	{api.OpIreturn, api.OpLreturn, api.FormNone},
	{api.OpAreturn, api.OpReturn, api.FormNone},
	{api.OpGetstatic, api.OpInvokevirtual, api.FormWide},
	{api.OpInvokestatic, api.OpInvokestatic, api.FormWide},
	{api.OpNew, api.OpNew, api.FormWide},
	{api.OpNewarray, api.OpNewarray, api.FormArray},
	{api.OpAnewarray, api.OpAnewarray, api.FormWide},
	{api.OpArraylength, api.OpAthrow, api.FormNone},
	{api.OpCheckcast, api.OpInstanceof, api.FormWide},
	{api.OpIfnull, api.OpIfnonnull, api.FormBranch},
}

// forms are the forms of all bytes, taken as operations.
type forms [256]byte

// allForms makes them of the spans, anew in each call, so that none of them is kept.
func allForms() forms {
	var f forms
	for _, s := range spans {
		for i := range s.last - s.first + 1 {
			f[s.first+i] = s.form
		}
	}
	return f
}

// size is how many bytes an operation has, with what stands behind it.
func (f *forms) size(op byte) int {
	if f[op] == none {
		return 0
	}
	s := shapes[f[op]]
	return opSize + s.a.size + s.b.size
}
