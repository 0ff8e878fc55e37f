// Package fresh lays what was handed in into new memory: an answer shares none with it, and no two lists of an answer share any (DOC.md, P2).
package fresh

import "espalier/api"

// Value is v, all lists within it in memory of their own.
func Value(v api.Value) api.Value {
	v.L = Values(v.L)
	return v
}

// Values are those of l, in memory of their own. Lists that are still to be laid are kept in a list rather than in calls within calls: they may be as deep as they like.
func Values(l []api.Value) []api.Value {
	out := append([]api.Value(nil), l...)
	open := [][]api.Value{out}
	for len(open) > 0 {
		top := open[len(open)-1]
		open = open[:len(open)-1]
		for i, x := range top {
			// An empty list may have room behind it that belongs to the caller.
			top[i].L = nil
			if len(x.L) > 0 {
				top[i].L = append([]api.Value(nil), x.L...)
				open = append(open, top[i].L)
			}
		}
	}
	return out
}
