package asm

import (
	"carpetbag/api"
	"carpetbag/desc"
	"carpetbag/ops"
)

// The texts that a class with methods, and one with maps, has to have.
const (
	codeName = "Code"
	mapsName = "StackMap"
)

// lay is what u's class is, if u has one.
func lay(u api.Unit) (api.File, api.Errno) {
	if isLong(u) {
		return api.File{}, api.ErrLong
	}
	g := newGrower()
	g.layLiterals(u.Methods)
	f := api.File{
		This:    g.class(u.Name),
		Super:   g.classOrNone(u.Super),
		Fields:  each(u.Fields, g.field),
		Methods: each(u.Methods, g.method),
	}
	if g.first != api.OK {
		return api.File{}, g.first
	}
	f.Pool = g.pool
	return f, api.OK
}

// isLong asks whether a unit has more than any class, so that no more of it is gone through than a class could have.
func isLong(u api.Unit) bool {
	if len(u.Fields) > api.MaxMembers || len(u.Methods) > api.MaxMembers {
		return true
	}
	for _, m := range u.Methods {
		if len(m.Code) > api.MaxCode {
			return true
		}
	}
	return false
}

// layLiterals lays what OpLdc pushes. It tells places in one byte, so these stand ahead of all else.
func (g *grower) layLiterals(l []api.Method) {
	for _, m := range l {
		for _, x := range m.Code {
			if x.Op == api.OpLdc {
				g.literal(x)
			}
		}
	}
	g.layStrings()
}

// field is a field without names.
func (g *grower) field(d api.Field) api.FileField {
	return api.FileField{Flags: flags(d.Static), Name: g.text(d.Name), Desc: g.text(d.Desc)}
}

// method is a method without names.
func (g *grower) method(m api.Method) api.FileMethod {
	g.text(codeName)
	if len(m.Maps) > 0 {
		g.text(mapsName)
	}
	b := loweredBody{g, codePlaces(m.Code)}
	return api.FileMethod{
		Flags:  flags(m.Static),
		Name:   g.text(m.Name),
		Desc:   g.text(m.Desc),
		Stack:  m.Stack,
		Locals: m.Locals,
		Code:   b.code(m.Code),
		Traps:  each(m.Traps, b.trap),
		Maps:   each(m.Maps, b.stackMap),
	}
}

// flags are a member's.
func flags(static bool) int {
	if static {
		return api.FlagStatic
	}
	return 0
}

// loweredBody knows the places of one method's instructions.
type loweredBody struct {
	*grower
	places
}

// code are the bytes of a row.
func (b loweredBody) code(l []api.Ins) []byte {
	var raws []api.Raw
	for i, x := range l {
		r := b.raw(x)
		r.At = b.starts[i]
		raws = append(raws, r)
	}
	code, e := ops.Encode(raws)
	b.refuse(e)
	return code
}

// raw is an instruction without names, wherever it stands.
func (b loweredBody) raw(x api.Ins) api.Raw {
	switch ops.Form(x.Op) {
	case api.FormBranch:
		return api.Raw{Op: x.Op, A: b.find(b.starts, int(x.N))}
	case api.FormConst, api.FormWide:
		return api.Raw{Op: x.Op, A: b.constant(x)}
	}
	return api.Raw{Op: x.Op, A: int(x.N), B: x.M}
}

// trap is a trap by places of the code.
func (b loweredBody) trap(t api.Trap) api.FileTrap {
	return api.FileTrap{
		From:  b.find(b.starts, t.From),
		To:    b.find(b.stops, t.To),
		At:    b.find(b.starts, t.At),
		Class: b.classOrNone(t.Class),
	}
}

// stackMap is a map without names.
func (b loweredBody) stackMap(m api.Map) api.FileMap {
	return api.FileMap{At: b.find(b.starts, m.At), Locals: each(m.Locals, b.slot), Stack: each(m.Stack, b.slot)}
}

// slot is a type of a map.
func (g *grower) slot(t string) api.Slot {
	switch t {
	case topType:
		return api.Slot{Tag: api.MapTop}
	case intType:
		return api.Slot{Tag: api.MapInt}
	case longType:
		return api.Slot{Tag: api.MapLong}
	case nullType:
		return api.Slot{Tag: api.MapNull}
	}
	name, ok := desc.ClassOf(t)
	if !ok {
		name = t
	}
	return api.Slot{Tag: api.MapObj, A: g.class(name)}
}

// constant is the place of what an instruction has of the pool.
func (g *grower) constant(x api.Ins) int {
	switch x.Op {
	case api.OpLdc:
		return g.literal(x)
	case api.OpLdc2:
		return g.put(api.Const{Tag: api.TagLong, N: x.N})
	case api.OpNew, api.OpAnewarray, api.OpCheckcast, api.OpInstanceof:
		return g.class(x.Class)
	case api.OpInvokevirtual, api.OpInvokestatic:
		return g.member(api.TagMethod, x)
	}
	return g.member(api.TagField, x)
}
