package bag

import (
	"cmp"
	"slices"

	"espalier/api"
	"espalier/fresh"
)

// Counter takes a row, and how often it comes.
type Counter func(r api.Row, n int)

// Tally is the bag of all rows that visit counts, each as often as it comes in all, or that bag's error: what is too often on the way may not be so in the end. Rows are only read: they may be the caller's. It is for the layers behind, too: no sum of theirs may be too great for an int.
func Tally(visit func(count Counter)) (api.Bag, api.Errno) {
	var all api.Bag
	visit(func(r api.Row, n int) { all = append(all, api.Count{R: r, N: n}) })
	slices.SortFunc(all, func(x, y api.Count) int { return Compare(x.R, y.R) })
	out := together(all)
	if e := Check(out); e != api.OK {
		return nil, e
	}
	return fresh.Bag(out), api.OK
}

// together makes one of those that have the same row, of a list in which these stand one behind the other; those go that come to nothing. No sum of this package is too great for an int: Add counts a row twice, by at most 1000 times mostTimes; the others at most 10 times MaxRows times, each by at most mostTimes.
func together(l api.Bag) api.Bag {
	var out api.Bag
	for _, c := range l {
		if last := len(out) - 1; last >= 0 && Compare(out[last].R, c.R) == 0 {
			out[last].N += c.N
		} else {
			out = append(out, c)
		}
	}
	return slices.DeleteFunc(out, func(c api.Count) bool { return c.N == 0 })
}

// maxFactor is how many times Add takes the second bag, at most.
const maxFactor = 1000

// Add has each row as often as a has it, and k times as often as b has it.
func Add(a, b api.Bag, k int) (api.Bag, api.Errno) {
	if k < -maxFactor || k > maxFactor {
		return nil, api.ErrRange
	}
	if e := cmp.Or(Check(a), Check(b)); e != api.OK {
		return nil, e
	}
	return Tally(func(count Counter) {
		for _, c := range a {
			count(c.R, c.N)
		}
		for _, c := range b {
			count(c.R, k*c.N)
		}
	})
}

// Pick has, of each row, the values of these columns, in this order.
func Pick(a api.Bag, columns []int) (api.Bag, api.Errno) {
	if len(columns) > api.MaxList {
		return nil, api.ErrMany
	}
	if slices.ContainsFunc(a, func(c api.Count) bool { return lacks(c.R, columns) }) {
		return nil, api.ErrRange
	}
	if e := Check(a); e != api.OK {
		return nil, e
	}
	return Tally(func(count Counter) {
		for _, c := range a {
			count(picked(c.R, columns), c.N)
		}
	})
}

func lacks(r api.Row, columns []int) bool {
	return slices.ContainsFunc(columns, func(i int) bool { return i < 0 || i >= len(r) })
}

func picked(r api.Row, columns []int) api.Row {
	var out api.Row
	for _, i := range columns {
		out = append(out, r[i])
	}
	return out
}
