package asm

import (
	"carpetbag/api"
)

// grower is a pool that grows; each constant stands in it once, so that no pool could do with fewer places.
type grower struct {
	faults
	pool  []api.Const
	known map[api.Const]int // the place of each
}

// newGrower has the place 0 alone.
func newGrower() *grower {
	return &grower{pool: []api.Const{{}}, known: map[api.Const]int{}}
}

// put is the place of a constant, which is laid behind all others if it isn't there.
func (g *grower) put(c api.Const) int {
	if at, ok := g.known[c]; ok {
		return at
	}
	laid := []api.Const{c}
	if c.Tag == api.TagLong {
		laid = append(laid, api.Const{})
	}
	at := len(g.pool)
	if at+len(laid) > api.MaxPool {
		g.refuse(api.ErrLong)
		return 0
	}
	g.pool = append(g.pool, laid...)
	g.known[c] = at
	return at
}

// literal is the place of what OpLdc pushes. Until layStrings has been, a string has its text itself.
func (g *grower) literal(x api.Ins) int {
	if x.Desc == stringDesc {
		return g.put(api.Const{Tag: api.TagString, S: x.Text})
	}
	return g.put(api.Const{Tag: api.TagInt, N: x.N})
}

// layStrings lays the texts of strings behind what there is.
func (g *grower) layStrings() {
	for at, c := range g.pool {
		if c.Tag == api.TagString {
			g.pool[at] = api.Const{Tag: api.TagString, A: g.text(c.S)}
		}
	}
}

// text is the place of a text.
func (g *grower) text(s string) int { return g.put(api.Const{Tag: api.TagText, S: s}) }

// class is the place of a class's name, or of an array's type.
func (g *grower) class(s string) int { return g.put(api.Const{Tag: api.TagClass, A: g.text(s)}) }

// classOrNone is the place of a class's name, 0 of an empty one.
func (g *grower) classOrNone(s string) int {
	if s == "" {
		return 0
	}
	return g.class(s)
}

// member is the place of an instruction's field or method.
func (g *grower) member(tag int, x api.Ins) int {
	name := g.put(api.Const{Tag: api.TagName, A: g.text(x.Name), B: g.text(x.Desc)})
	return g.put(api.Const{Tag: tag, A: g.class(x.Class), B: name})
}
