package ask

import (
	"slices"

	"espalier/api"
	"espalier/bag"
	"espalier/fresh"
	"espalier/value"
)

// Sort are the rows of a bag, each as often as it stands there, by their values at these places (1 the first; below 0: falling): without the first skip, at most limit.
func Sort(b api.Bag, by []int, skip, limit int) ([]api.Row, api.Errno) {
	if e := bag.Check(b); e != api.OK {
		return nil, e
	}
	if skip < 0 || limit < 0 || len(by) > api.MaxList {
		return nil, api.ErrRange
	}
	rows, e := spread(b, by)
	if e != api.OK {
		return nil, e
	}
	slices.SortStableFunc(rows, func(x, y api.Row) int { return compareAt(by, x, y) })
	rows = rows[min(skip, len(rows)):]
	rows = rows[:min(limit, len(rows))]
	var out []api.Row
	for _, r := range rows {
		out = append(out, fresh.Values(r))
	}
	return out, api.OK
}

// spread are the rows of a bag, each as often as it stands there, if all of them can be held against each other at these places.
func spread(b api.Bag, by []int) ([]api.Row, api.Errno) {
	var out []api.Row
	for _, c := range b {
		if c.N < 0 {
			return nil, api.ErrForm
		}
		if slices.ContainsFunc(by, func(n int) bool { return n == 0 || n > len(c.R) || n < -len(c.R) }) {
			return nil, api.ErrRange
		}
		if c.N > api.MaxRows-len(out) {
			return nil, api.ErrFull
		}
		for range c.N {
			out = append(out, c.R)
		}
	}
	return out, api.OK
}

// compareAt is the order of two rows by their values at these places, the first that differs telling.
func compareAt(by []int, x, y api.Row) int {
	for _, n := range by {
		a, b := x, y
		if n < 0 {
			n, a, b = -n, y, x
		}
		if c := value.Order(a[n-1], b[n-1]); c != 0 {
			return c
		}
	}
	return 0
}
