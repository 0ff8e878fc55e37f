package value

import (
	"cmp"

	"espalier/api"
)

// pair is two lists that are held against each other. Pairs that are still open are kept in a list rather than in calls within calls: values that Check doesn't take may be so deep that calls would run out of room.
type pair struct{ a, b []api.Value }

// Order is below 0, 0 or above 0, as a stands ahead of b, with it, or behind it.
func Order(a, b api.Value) int {
	if c := orderPlain(a, b); c != 0 || len(a.L) == 0 && len(b.L) == 0 {
		return c
	}
	open := []pair{{a.L, b.L}}
	for len(open) > 0 {
		last := len(open) - 1
		top := open[last]
		if len(top.a) == 0 || len(top.b) == 0 {
			if c := cmp.Compare(len(top.a), len(top.b)); c != 0 {
				return c
			}
			open = open[:last]
			continue
		}
		x, y := top.a[0], top.b[0]
		if c := orderPlain(x, y); c != 0 {
			return c
		}
		open[last] = pair{top.a[1:], top.b[1:]}
		open = append(open, pair{x.L, y.L})
	}
	return 0
}

// orderPlain is the order by all but L.
func orderPlain(a, b api.Value) int {
	return cmp.Or(cmp.Compare(a.Kind, b.Kind), cmp.Compare(a.N, b.N), cmp.Compare(a.S, b.S))
}

// Same tells whether two values are the same; Null, if that can't be known.
func Same(a, b api.Value) api.Value {
	known := true
	open := []pair{{[]api.Value{a}, []api.Value{b}}}
	for len(open) > 0 {
		top := open[len(open)-1]
		open = open[:len(open)-1]
		if len(top.a) != len(top.b) {
			return Truth(false)
		}
		for i, x := range top.a {
			y := top.b[i]
			switch {
			case x.Kind == api.Null || y.Kind == api.Null:
				// A false, however deep and however late, still outdoes this.
				known = false
			case x.Kind == api.List && y.Kind == api.List:
				open = append(open, pair{x.L, y.L})
			case Order(x, y) != 0:
				return Truth(false)
			}
		}
	}
	if !known {
		return api.Value{}
	}
	return Truth(true)
}

// Less tells of two Ints, or of two Texts, whether a is ahead of b; of others Null.
func Less(a, b api.Value) api.Value {
	if a.Kind != b.Kind || a.Kind != api.Int && a.Kind != api.Text {
		return api.Value{}
	}
	return Truth(Order(a, b) < 0)
}
