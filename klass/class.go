package klass

import (
	"carpetbag/api"
)

// What stands in each class: the first number is a u4, told in halves, which are ints everywhere.
const (
	magicHigh = 0xcafe
	magicLow  = 0xbabe
	minor     = 0
	major     = 45
)

// How many attributes stand behind a member, or behind a class.
const (
	noParts = 0
	onePart = 1
)

// The names of attributes.
const (
	codeName = "Code"
	mapsName = "StackMap"
)

// The greatest numbers that api doesn't tell.
const (
	maxPlace = 65535 // a place of a code
	maxRows  = 255   // traps, or maps, of a method
)

// class goes over a class.
func class(p pass, f *api.File) {
	always(p, magicHigh)
	always(p, magicLow)
	always(p, minor)
	always(p, major)
	p.pool(&f.Pool)
	c := consts(f.Pool)
	always(p, api.FlagClass)
	number(p, &f.This, c.isClass)
	number(p, &f.Super, c.isClassOrNone)
	always(p, noParts)
	row(p, &f.Fields, api.MaxMembers, c.field)
	row(p, &f.Methods, api.MaxMembers, c.method)
	always(p, noParts)
}

// field goes over a field.
func (c consts) field(p pass, d *api.FileField) {
	c.member(p, &d.Flags, &d.Name, &d.Desc)
	always(p, noParts)
}

// method goes over a method.
func (c consts) method(p pass, m *api.FileMethod) {
	c.member(p, &m.Flags, &m.Name, &m.Desc)
	always(p, onePart)
	c.part(p, codeName, func(p pass) { c.body(p, m) })
}

// member goes over what fields and methods have.
func (c consts) member(p pass, flags, name, desc *int) {
	number(p, flags, isFlags)
	number(p, name, c.isText)
	number(p, desc, c.isText)
}

// part goes over an attribute, the name of which has to stand in the pool.
func (c consts) part(p pass, name string, steps func(pass)) {
	at, ok := c.first(name)
	p.ask(ok)
	always(p, at)
	p.block(steps)
}

// body goes over what a method's attribute tells.
func (c consts) body(p pass, m *api.FileMethod) {
	number(p, &m.Stack, upTo(api.MaxStack))
	number(p, &m.Locals, upTo(api.MaxLocals))
	code(p, &m.Code)
	row(p, &m.Traps, maxRows, c.trap)
	c.maps(p, &m.Maps)
}

// code goes over a code, behind its length.
func code(p pass, b *[]byte) {
	n := len(*b)
	p.number(&n, lengthSize)
	p.ask(1 <= n && n <= api.MaxCode)
	if p.goesOn() {
		p.bytes(b, n)
	}
}

// trap goes over a trap.
func (c consts) trap(p pass, t *api.FileTrap) {
	number(p, &t.From, upTo(maxPlace))
	number(p, &t.To, upTo(maxPlace))
	number(p, &t.At, upTo(maxPlace))
	number(p, &t.Class, c.isClassOrNone)
}

// maps goes over the attribute of a method's maps, which stands there only if there are some.
func (c consts) maps(p pass, l *[]api.FileMap) {
	parts := min(len(*l), onePart)
	number(p, &parts, upTo(onePart))
	if parts == noParts {
		return
	}
	c.part(p, mapsName, func(p pass) {
		row(p, l, maxRows, c.stackMap)
		p.ask(len(*l) > 0)
	})
}

// stackMap goes over a map.
func (c consts) stackMap(p pass, m *api.FileMap) {
	number(p, &m.At, upTo(maxPlace))
	row(p, &m.Locals, api.MaxLocals, c.slot)
	row(p, &m.Stack, api.MaxStack, c.slot)
}

// slot goes over a type of a map: A stands there only of a MapObj.
func (c consts) slot(p pass, s *api.Slot) {
	p.number(&s.Tag, tagSize)
	p.ask(isMapTag(s.Tag))
	if s.Tag == api.MapObj {
		number(p, &s.A, c.isClass)
	}
	p.ask(s.Tag == api.MapObj || s.A == 0)
}
