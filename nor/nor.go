// Package nor is layer 1: a simulated NOR flash.
package nor

import (
	"carpetbag/api"
)

// noFuse is the fuse of a flash whose acts are all done whole.
const noFuse = -1

// Flash is sectors of bytes.
type Flash struct {
	geometry api.Geometry
	cells    []byte // sector behind sector
	erases   []int  // by sector
	up       bool
	fuse     int
	tear     api.Tear
}

// New is an erased flash.
func New(g api.Geometry) (*Flash, api.Errno) {
	if !mayBe(g) {
		return nil, api.ErrArg
	}
	f := &Flash{
		geometry: g,
		cells:    make([]byte, g.Sectors*g.Size),
		erases:   make([]int, g.Sectors),
		up:       true,
		fuse:     noFuse,
	}
	fill(f.cells)
	return f, api.OK
}

// mayBe asks whether a geometry may be.
func mayBe(g api.Geometry) bool {
	return within(g.Sectors, 1, api.MaxSectors) &&
		within(g.Size, api.MinSector, api.MaxSector) &&
		within(g.Limit, 1, api.MaxLimit)
}

// within asks whether a number is low to high.
func within(n, low, high int) bool { return low <= n && n <= high }

// Geometry is what a flash has.
func (f *Flash) Geometry() api.Geometry {
	if f == nil {
		return api.Geometry{}
	}
	return f.geometry
}

// Fuse says how many acts are done whole, and what the next one does.
func (f *Flash) Fuse(n int, t api.Tear) {
	if f != nil {
		f.fuse, f.tear = n, t
	}
}

// Read reads bytes.
func (f *Flash) Read(at, n int) ([]byte, api.Errno) {
	cells, e := f.span(at, n)
	if e != api.OK {
		return nil, e
	}
	return append([]byte(nil), cells...), api.OK
}

// Program turns bits to 0.
func (f *Flash) Program(at int, b []byte) api.Errno {
	cells, e := f.span(at, len(b))
	if e != api.OK {
		return e
	}
	for i, x := range b {
		if x&^cells[i] != 0 {
			return api.ErrBit
		}
	}
	done, e := f.act(len(b))
	for i, x := range b[:done] {
		cells[i] &^= ^x
	}
	if done < len(b) {
		cells[done] &^= f.tear.Mask &^ b[done]
	}
	return e
}

// Erase turns all bits of a sector to 1.
func (f *Flash) Erase(sector int) api.Errno {
	if f.isDown() {
		return api.ErrDown
	}
	if !f.has(sector) {
		return api.ErrRange
	}
	if f.erases[sector] >= f.geometry.Limit {
		return api.ErrWorn
	}
	cells := f.sector(sector)
	done, e := f.act(len(cells))
	fill(cells[:done])
	if done < len(cells) {
		cells[done] |= f.tear.Mask
	}
	f.erases[sector]++
	return e
}

// Erases is how often a sector was erased.
func (f *Flash) Erases(sector int) int {
	if !f.has(sector) {
		return 0
	}
	return f.erases[sector]
}

// Reset lets a flash be up again.
func (f *Flash) Reset() {
	if f != nil {
		f.up, f.fuse, f.tear = true, noFuse, api.Tear{}
	}
}

// isDown asks whether nothing is read or done.
func (f *Flash) isDown() bool { return f == nil || !f.up }

// has asks whether there is such a sector.
func (f *Flash) has(sector int) bool {
	return f != nil && 0 <= sector && sector < len(f.erases)
}

// sector is a sector's bytes, cut so that nothing reaches the sector behind them.
func (f *Flash) sector(sector int) []byte {
	from := sector * f.geometry.Size
	to := from + f.geometry.Size
	return f.cells[from:to:to]
}

// span is the n bytes at a place.
func (f *Flash) span(at, n int) ([]byte, api.Errno) {
	if f.isDown() {
		return nil, api.ErrDown
	}
	// Subtracting keeps very great places from going round.
	if at < 0 || n < 0 || n > len(f.cells)-at {
		return nil, api.ErrRange
	}
	return f.cells[at : at+n : at+n], api.OK
}

// act burns the fuse by one act on n bytes that was allowed: how many of them are done whole, and the act's answer.
func (f *Flash) act(n int) (int, api.Errno) {
	if f.fuse == 0 {
		f.up = false
		return max(f.tear.Keep, 0) % (n + 1), api.ErrDown
	}
	if f.fuse > 0 {
		f.fuse--
	}
	return n, api.OK
}

// fill erases bytes.
func fill(cells []byte) {
	for i := range cells {
		cells[i] = 0xff
	}
}
