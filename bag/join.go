package bag

import (
	"cmp"
	"slices"

	"espalier/api"
)

// maxPairs is how many pairs of rows Join holds against each other, at most.
const maxPairs = 10 * api.MaxRows

// Join has, of each row of a and each of b whose first k values are the same, a's values, and b's behind these, as often as the product of both says.
func Join(a, b api.Bag, k int) (api.Bag, api.Errno) {
	if e := joinable(a, b, k); e != api.OK {
		return nil, e
	}
	over := false
	meet(a, b, k, func(x, y api.Count) { over = over || size(x.N) > mostTimes/size(y.N) })
	if over {
		return nil, api.ErrRange
	}
	return Tally(func(count Counter) {
		meet(a, b, k, func(x, y api.Count) { count(slices.Concat(x.R, y.R[k:]), x.N*y.N) })
	})
}

// joinable is what is wrong with that which Join is handed.
func joinable(a, b api.Bag, k int) api.Errno {
	if k < 0 || k > api.MaxList {
		return api.ErrRange
	}
	short := func(c api.Count) bool { return len(c.R) < k }
	if slices.ContainsFunc(a, short) || slices.ContainsFunc(b, short) {
		return api.ErrRange
	}
	// Asked by a quotient, as the product may be too great for an int.
	if len(a) > 0 && len(b) > maxPairs/len(a) {
		return api.ErrMany
	}
	return cmp.Or(Check(a), Check(b))
}

// meet visits all pairs of rows of a and of b whose first k values are the same, none of them Null.
func meet(a, b api.Bag, k int, visit func(x, y api.Count)) {
	for _, x := range a {
		key := x.R[:k]
		if slices.ContainsFunc(key, isNull) {
			continue
		}
		for _, y := range b {
			if Compare(key, y.R[:k]) == 0 {
				visit(x, y)
			}
		}
	}
}

func isNull(v api.Value) bool { return v.Kind == api.Null }

// size is n without its sign: of numbers that Check takes.
func size(n int) int { return max(n, -n) }
