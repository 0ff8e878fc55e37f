package code

import (
	"espalier/api"
	"espalier/value"
)

// reader takes bytes off from the front; torn: they weren't as they should be, and what was read since then tells nothing.
type reader struct {
	rest []byte
	torn bool
}

// Value reads what Bytes writes.
func Value(b string) (api.Value, api.Errno) {
	if len(b) > api.MaxDisk {
		return api.Value{}, api.ErrMany
	}
	r := &reader{rest: []byte(b)}
	v := r.value(0)
	if r.torn || len(r.rest) > 0 {
		return api.Value{}, api.ErrTorn
	}
	return v, api.OK
}

// Long tells how many bytes of b are a value's, whatever follows them.
func Long(b string) (int, bool) {
	r := &reader{rest: []byte(b)}
	r.skip(0)
	if r.torn {
		return 0, false
	}
	return len(b) - len(r.rest), true
}

// cut takes n bytes off. They have no room behind them: what is added to them can't run into what is still to be read.
func (r *reader) cut(n int) []byte {
	if r.torn || n > len(r.rest) {
		r.torn = true
		return nil
	}
	piece := r.rest[:n:n]
	r.rest = r.rest[n:]
	return piece
}

// number takes a number of so many bytes off.
func (r *reader) number(size int) uint64 {
	n := uint64(0)
	for _, c := range r.cut(size) {
		n = n<<8 | uint64(c)
	}
	return n
}

// value reads a value that lies within so many lists.
func (r *reader) value(lists int) api.Value {
	v, inner := r.head(lists)
	if inner > 0 {
		v.L = make([]api.Value, inner)
	}
	for i := range v.L {
		v.L[i] = r.value(lists + 1)
	}
	return v
}

// skip reads as value does, but keeps nothing: the bytes may be of any length, and their values take many times their room.
func (r *reader) skip(lists int) {
	_, inner := r.head(lists)
	for range inner {
		r.skip(lists + 1)
	}
}

// head reads a value but for those that are in it, and tells how many these are: none if it is torn, so that readers soon end.
func (r *reader) head(lists int) (v api.Value, inner int) {
	v.Kind = int(r.number(1))
	switch v.Kind {
	case api.Bool, api.Int:
		v.N = int(r.number(8) + shift)
	case api.Text:
		v.S = string(r.cut(int(r.number(2))))
	case api.List:
		inner = int(r.number(1))
		r.torn = r.torn || inner > api.MaxList || lists >= api.MaxDeep
	}
	// A List has no values here yet: Check tells of all others.
	r.torn = r.torn || value.Check(v) != api.OK
	if r.torn {
		return api.Value{}, 0
	}
	return v, inner
}
