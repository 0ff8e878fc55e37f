package plan

import (
	"espalier/api"
	"espalier/query"
	"espalier/term"
)

// mostAround is how many others a plan may lie within.
const mostAround = 40

// Check tells how many dots of a question a plan finds.
func Check(q api.Query, p api.Plan) (int, api.Errno) {
	if e := query.Check(q); e != api.OK {
		return 0, e
	}
	c := checker{q, term.Calls()}
	return c.dots(p, 0)
}

// checker holds plans against a question that is right.
type checker struct {
	q     api.Query
	calls term.Book
}

// dots is how many are found by a plan that lies within so many others. It goes no deeper than plans may lie, so that it ends, however deep p is.
func (c checker) dots(p api.Plan, around int) (int, api.Errno) {
	if around > mostAround {
		return 0, api.ErrMany
	}
	if p.Kind == api.Scan {
		return scan(p)
	}
	if p.Kind != api.Hop && p.Kind != api.Sift || len(p.From) != 1 {
		return 0, api.ErrForm
	}
	found, e := c.dots(p.From[0], around+1)
	if e != api.OK {
		return 0, e
	}
	if p.Kind == api.Hop {
		return c.hop(p, found)
	}
	return c.sift(p, found)
}

func scan(p api.Plan) (int, api.Errno) {
	if p.N != 0 || len(p.From) > 0 || p.Where.Kind != 0 {
		return 0, api.ErrForm
	}
	return 1, api.OK
}

func (c checker) hop(p api.Plan, found int) (int, api.Errno) {
	if p.N != found-1 || p.N >= len(c.q.Arrows) || p.Where.Kind != 0 {
		return 0, api.ErrForm
	}
	return found + 1, api.OK
}

func (c checker) sift(p api.Plan, found int) (int, api.Errno) {
	if p.N != 0 {
		return 0, api.ErrForm
	}
	if e := c.calls.Right(p.Where, bound(c.q, found)); e != api.OK {
		return 0, e
	}
	return found, api.OK
}
