package asm

import (
	"carpetbag/api"
	"carpetbag/desc"
	"carpetbag/ops"
	"carpetbag/pool"
)

// lifter tells the names that stand at places of a pool that may be.
type lifter struct {
	faults
	pool []api.Const
}

// unit is a class that may be, with names.
func (l *lifter) unit(f api.File) api.Unit {
	return api.Unit{
		Name:    l.class(f.This, desc.IsClass),
		Super:   l.classOrNone(f.Super),
		Fields:  each(f.Fields, l.field),
		Methods: each(f.Methods, l.method),
	}
}

// field is a field with names.
func (l *lifter) field(d api.FileField) api.Field {
	return api.Field{Static: d.Flags == api.FlagStatic, Name: l.text(d.Name, IsName), Desc: l.text(d.Desc, desc.IsType)}
}

// method is a method with names.
func (l *lifter) method(m api.FileMethod) api.Method {
	code, e := ops.Decode(m.Code)
	l.refuse(e)
	b := liftedBody{l, rowPlaces(code, len(m.Code))}
	return api.Method{
		Static: m.Flags == api.FlagStatic,
		Name:   l.text(m.Name, IsName),
		Desc:   l.text(m.Desc, isMethod),
		Stack:  m.Stack,
		Locals: m.Locals,
		Code:   each(code, b.ins),
		Traps:  each(m.Traps, b.trap),
		Maps:   each(m.Maps, b.stackMap),
	}
}

// liftedBody knows the places of one method's instructions.
type liftedBody struct {
	*lifter
	places
}

// ins is an instruction with names.
func (b liftedBody) ins(r api.Raw) api.Ins {
	x := api.Ins{N: int64(r.A), M: r.B}
	switch ops.Form(r.Op) {
	case api.FormBranch:
		x.N = int64(b.find(b.starts, r.A))
	case api.FormConst, api.FormWide:
		x = b.named(r)
	}
	x.Op = r.Op
	return x
}

// trap is a trap by places of instructions.
func (b liftedBody) trap(t api.FileTrap) api.Trap {
	return api.Trap{
		From:  b.find(b.starts, t.From),
		To:    b.find(b.stops, t.To),
		At:    b.find(b.starts, t.At),
		Class: b.classOrNone(t.Class),
	}
}

// stackMap is a map with types.
func (b liftedBody) stackMap(m api.FileMap) api.Map {
	return api.Map{At: b.find(b.starts, m.At), Locals: each(m.Locals, b.slot), Stack: each(m.Stack, b.slot)}
}

// slot is a type of a map.
func (l *lifter) slot(s api.Slot) string {
	switch s.Tag {
	case api.MapTop:
		return topType
	case api.MapInt:
		return intType
	case api.MapLong:
		return longType
	case api.MapNull:
		return nullType
	}
	name := l.class(s.A, isClassOrArray)
	if isArray(name) {
		return name
	}
	return desc.Object(name)
}

// named is what an instruction has of the pool.
func (l *lifter) named(r api.Raw) api.Ins {
	switch r.Op {
	case api.OpLdc:
		return l.literal(r.A)
	case api.OpLdc2:
		return l.long(r.A)
	case api.OpNew:
		return api.Ins{Class: l.class(r.A, desc.IsClass)}
	case api.OpAnewarray, api.OpCheckcast, api.OpInstanceof:
		return api.Ins{Class: l.class(r.A, isClassOrArray)}
	case api.OpInvokevirtual, api.OpInvokestatic:
		return l.member(r.A, api.TagMethod, isMethod)
	}
	return l.member(r.A, api.TagField, desc.IsType)
}

// literal is the int or the string at a place.
func (l *lifter) literal(at int) api.Ins {
	c := l.constant(at)
	if c.Tag == api.TagString {
		s, _ := pool.Text(l.pool, c.A)
		return api.Ins{Desc: stringDesc, Text: s}
	}
	l.ask(c.Tag == api.TagInt)
	return api.Ins{Desc: intDesc, N: c.N}
}

// long is the long at a place.
func (l *lifter) long(at int) api.Ins {
	c := l.constant(at)
	l.ask(c.Tag == api.TagLong)
	return api.Ins{Desc: longDesc, N: c.N}
}

// member is the field or the method at a place.
func (l *lifter) member(at, tag int, isDesc func(string) bool) api.Ins {
	class, name, d, ok := pool.Member(l.pool, at, tag)
	return api.Ins{
		Class: l.checked(class, ok, desc.IsClass),
		Name:  l.checked(name, ok, IsName),
		Desc:  l.checked(d, ok, isDesc),
	}
}

// classOrNone is the class's name at a place, empty at place 0.
func (l *lifter) classOrNone(at int) string {
	if at == 0 {
		return ""
	}
	return l.class(at, desc.IsClass)
}

// class is the text of the TagClass at a place.
func (l *lifter) class(at int, is func(string) bool) string {
	s, ok := pool.Class(l.pool, at)
	return l.checked(s, ok, is)
}

// text is the text at a place.
func (l *lifter) text(at int, is func(string) bool) string {
	s, ok := pool.Text(l.pool, at)
	return l.checked(s, ok, is)
}

// checked is a text that was found and is of its kind. Once something is wrong no more is asked: a long text may be named very often.
func (l *lifter) checked(s string, found bool, is func(string) bool) string {
	l.ask(found)
	if l.first != api.OK {
		return ""
	}
	l.ask(is(s))
	return s
}

// constant is what stands at a place, nothing beyond the pool.
func (l *lifter) constant(at int) api.Const {
	if at >= len(l.pool) {
		return api.Const{}
	}
	return l.pool[at]
}
