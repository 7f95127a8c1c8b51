package verify

import (
	"slices"

	"carpetbag/api"
	"carpetbag/desc"
)

// do does an instruction: its operation's number tells of which group it is, and a group knows its own ones.
func (s step) do(x api.Ins) step {
	switch op := x.Op; {
	case op <= api.OpLdc2:
		return s.constant(x)
	case op <= api.OpAload:
		return s.loaded(x)
	case op <= api.OpBaload:
		return s.itemLoaded(op)
	case op <= api.OpAstore:
		return s.stored(x)
	case op <= api.OpBastore:
		return s.itemStored(op)
	case op <= api.OpSwap:
		return s.top(op)
	case op == api.OpIinc:
		return s.load(x.N, intType)
	case op <= api.OpLcmp:
		return s.sum(op)
	case op <= api.OpGoto:
		return s.branch(op)
	case op <= api.OpReturn:
		return s.answer(op)
	case op <= api.OpInvokestatic:
		return s.member(x)
	case op <= api.OpInstanceof:
		return s.object(x)
	}
	return s.branch(x.Op)
}

// constant pushes what is always the same.
func (s step) constant(x api.Ins) step {
	switch x.Op {
	case api.OpNop:
		return s
	case api.OpNull:
		return s.push(nullType)
	case api.OpLconst0, api.OpLconst1, api.OpLdc2:
		return s.push(longType)
	case api.OpLdc:
		return s.push(constantType(x.Desc))
	case api.OpBipush, api.OpSipush:
		return s.push(intType)
	}
	return s.need(api.OpIconstM1 <= x.Op && x.Op <= api.OpIconst5).push(intType)
}

// loaded pushes what stands in a local.
func (s step) loaded(x api.Ins) step {
	switch x.Op {
	case api.OpIload:
		return s.load(x.N, intType).again(0)
	case api.OpLload:
		return s.load(x.N, longType).again(0)
	case api.OpAload:
		return s.load(x.N, anyRef).again(0)
	}
	return step{}
}

// stored takes what is to stand in a local.
func (s step) stored(x api.Ins) step {
	switch x.Op {
	case api.OpIstore:
		return s.take(intType).store(x.N)
	case api.OpLstore:
		return s.take(longType).store(x.N)
	case api.OpAstore:
		return s.take(anyRef).store(x.N)
	}
	return step{}
}

// itemLoaded pushes what stands in an array.
func (s step) itemLoaded(op byte) step {
	switch op {
	case api.OpIaload:
		return s.take(intsType, intType).push(intType)
	case api.OpBaload:
		return s.take(bytesType, intType).push(intType)
	case api.OpAaload:
		return s.take(anyRef, intType).item().again(0)
	}
	return step{}
}

// itemStored takes what is to stand in an array: whether one of classes may have it is asked when it is run.
func (s step) itemStored(op byte) step {
	switch op {
	case api.OpIastore:
		return s.take(intsType, intType, intType)
	case api.OpBastore:
		return s.take(bytesType, intType, intType)
	case api.OpAastore:
		return s.take(anyRef, intType, anyRef).item()
	}
	return step{}
}

// top moves what stands on the stack.
func (s step) top(op byte) step {
	switch op {
	case api.OpPop:
		return s.take(anyItem)
	case api.OpDup:
		return s.take(anyItem).again(0, 0)
	case api.OpSwap:
		return s.take(anyItem, anyItem).again(1, 0)
	}
	return step{}
}

// sum reckons with ints and longs.
func (s step) sum(op byte) step {
	switch op {
	case api.OpIadd, api.OpIsub, api.OpImul, api.OpIdiv, api.OpIrem, api.OpIshl, api.OpIshr, api.OpIushr, api.OpIand, api.OpIor, api.OpIxor:
		return s.take(intType, intType).push(intType)
	case api.OpLadd, api.OpLsub, api.OpLmul, api.OpLdiv, api.OpLrem, api.OpLand, api.OpLor, api.OpLxor:
		return s.take(longType, longType).push(longType)
	case api.OpLshl, api.OpLshr, api.OpLushr:
		return s.take(longType, intType).push(longType)
	case api.OpIneg, api.OpI2b:
		return s.take(intType).push(intType)
	case api.OpLneg:
		return s.take(longType).push(longType)
	case api.OpI2l:
		return s.take(intType).push(longType)
	case api.OpL2i:
		return s.take(longType).push(intType)
	case api.OpLcmp:
		return s.take(longType, longType).push(intType)
	}
	return step{}
}

// branch takes what is asked, to know where to go.
func (s step) branch(op byte) step {
	switch op {
	case api.OpGoto:
		return s
	case api.OpIfeq, api.OpIfne, api.OpIflt, api.OpIfge, api.OpIfgt, api.OpIfle:
		return s.take(intType)
	case api.OpIcmpeq, api.OpIcmpne, api.OpIcmplt, api.OpIcmpge, api.OpIcmpgt, api.OpIcmple:
		return s.take(intType, intType)
	case api.OpAcmpeq, api.OpAcmpne:
		return s.take(anyRef, anyRef)
	case api.OpIfnull, api.OpIfnonnull:
		return s.take(anyRef)
	}
	return step{}
}

// answer takes what the method answers.
func (s step) answer(op byte) step {
	_, ret, _ := desc.Method(s.m.Desc)
	switch op {
	case api.OpIreturn:
		return s.need(ret == intType).take(ret)
	case api.OpLreturn:
		return s.need(ret == longType).take(ret)
	case api.OpAreturn:
		return s.need(desc.IsRef(ret)).take(ret)
	case api.OpReturn:
		return s.need(ret == noType)
	}
	return step{}
}

// member reads and writes fields, and calls methods.
func (s step) member(x api.Ins) step {
	this := desc.Object(x.Class)
	switch x.Op {
	case api.OpGetstatic:
		return s.field(x, true).push(x.Desc)
	case api.OpPutstatic:
		return s.field(x, true).take(x.Desc)
	case api.OpGetfield:
		return s.field(x, false).take(this).push(x.Desc)
	case api.OpPutfield:
		return s.field(x, false).take(this, x.Desc)
	case api.OpInvokevirtual:
		return s.call(x, false, this)
	case api.OpInvokestatic:
		return s.call(x, true)
	}
	return step{}
}

// field goes on just if there is such a field.
func (s step) field(x api.Ins, static bool) step {
	mem, ok := s.w.Field(x.Class, x.Name, x.Desc)
	return s.need(ok && mem.Static == static)
}

// call takes what stands ahead of the arguments, and these, and pushes what the method answers, should there be such a one.
func (s step) call(x api.Ins, static bool, ahead ...string) step {
	mem, ok := s.w.Method(x.Class, x.Name, x.Desc)
	args, ret, _ := desc.Method(x.Desc)
	s = s.need(ok && mem.Static == static).take(slices.Concat(ahead, args)...)
	if ret == noType {
		return s
	}
	return s.push(ret)
}

// object makes objects and arrays, and asks what they are.
func (s step) object(x api.Ins) step {
	t := classType(x.Class)
	switch x.Op {
	case api.OpNew:
		return s.need(s.w.Has(x.Class)).push(desc.Object(x.Class))
	case api.OpNewarray:
		return s.newRow(x.N)
	case api.OpAnewarray:
		// If an array of them is a type, so are they.
		return s.need(s.isType(rowOf(t))).take(intType).push(rowOf(t))
	case api.OpArraylength:
		return s.take(anyRef).isRow().push(intType)
	case api.OpAthrow:
		return s.take(desc.Object(throwable))
	case api.OpCheckcast:
		return s.need(s.isType(t)).take(anyRef).push(t)
	case api.OpInstanceof:
		return s.need(s.isType(t)).take(anyRef).push(intType)
	}
	return step{}
}

// newRow makes an array of bytes or ints.
func (s step) newRow(kind int64) step {
	switch kind {
	case bytesKind:
		return s.take(intType).push(bytesType)
	case intsKind:
		return s.take(intType).push(intsType)
	}
	return step{}
}

// isType asks whether a text is a type of the world: one that names a class goes for itself just if it is there.
func (s step) isType(t string) bool {
	return desc.IsType(t) && s.w.Goes(t, t)
}
