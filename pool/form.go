package pool

import (
	"carpetbag/api"
	"carpetbag/num"
)

// How many bytes a pool's parts have.
const (
	countSize = 2
	tagSize   = 1
	lenSize   = 2
	placeSize = 2
	intSize   = 4
	longSize  = 8
)

// none is the Tag of a place where nothing stands.
const none = 0

// form is what stands behind a Tag.
type form struct {
	text   bool // its length, and S
	number int  // so many bytes of N
	a, b   int  // A and B, if not none: the Tags of the places that they tell
}

// formOf is a Tag's form: the empty one, if there is no such Tag.
func formOf(tag int) form {
	var f form
	switch tag {
	case api.TagText:
		f.text = true
	case api.TagLong:
		f.number = longSize - intSize
		fallthrough
	case api.TagInt:
		f.number += intSize
	case api.TagField, api.TagMethod:
		f.a, f.b = api.TagClass, api.TagName
	case api.TagName:
		f.b = api.TagText
		fallthrough
	case api.TagClass, api.TagString:
		f.a = api.TagText
	}
	return f
}

// part is what bytes of the form tell of a constant.
func (f form) part(c api.Const) api.Const {
	p := api.Const{Tag: c.Tag}
	if f.text {
		p.S = c.S
	}
	if f.number != 0 {
		p.N = num.Sign(uint64(c.N), f.number)
	}
	if f.a != none {
		p.A = c.A
	}
	if f.b != none {
		p.B = c.B
	}
	return p
}
