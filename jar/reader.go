package jar

import (
	"bytes"

	"carpetbag/api"
	"carpetbag/crc"
	"carpetbag/num"
)

// reader reads a jar's parts from place to place, until something is wrong.
type reader struct {
	b     []byte
	at    int
	seen  names
	first api.Errno // what is wrong first
}

// goesOn asks whether nothing is wrong so far.
func (r *reader) goesOn() bool { return r.first == api.OK }

// ask keeps an error, if what has to hold doesn't, and nothing was wrong ahead of it.
func (r *reader) ask(holds bool, e api.Errno) {
	if !holds && r.goesOn() {
		r.first = e
	}
}

// take reads n bytes; none, once something is wrong.
func (r *reader) take(n uint64) []byte {
	r.ask(n <= uint64(len(r.b)-r.at), api.ErrShort)
	if !r.goesOn() {
		return nil
	}
	from := r.at
	r.at += int(n)
	return r.b[from:r.at]
}

// number reads a number of some bytes; 0, once something is wrong.
func (r *reader) number(size int) uint64 {
	v, e := num.Get(r.b, r.at, size)
	r.ask(e == api.OK, e)
	if !r.goesOn() {
		return 0
	}
	r.at += size
	return v
}

// items reads all that a jar has.
func (r *reader) items() []api.Item {
	begin := r.take(uint64(len(mark)))
	r.ask(string(begin) == mark, api.ErrForm)
	count := r.number(countSize)
	r.ask(count <= maxItems, api.ErrForm)
	var l []api.Item
	for range count {
		if !r.goesOn() {
			return nil
		}
		l = append(l, r.item())
	}
	r.ask(r.at == len(r.b), api.ErrForm)
	return l
}

// item reads an item.
func (r *reader) item() api.Item {
	name := r.name()
	data := r.take(r.number(dataLenSize))
	sum := uint32(r.number(sumSize))
	r.ask(sum == crc.Sum32(data), api.ErrSum)
	return api.Item{Name: name, Data: bytes.Clone(data)}
}

// name reads an item's name, which none ahead has.
func (r *reader) name() string {
	name := string(r.take(r.number(nameLenSize)))
	r.ask(isName(name), api.ErrForm)
	r.ask(r.seen.add(name), api.ErrForm)
	return name
}
