package reach

import (
	"slices"

	"espalier/api"
	"espalier/sample"
)

// drawn is a graph of so many nodes, numbered from 1 on, with edges behind them in the order in which they are told: each from, to, and of the type K, or of L if a third number stands there.
func drawn(nodes int, edges ...[]int) api.Graph {
	g := api.Graph{Nodes: sample.Nodes(nodes), Next: nodes + 1}
	for _, x := range edges {
		kind := "K"
		if len(x) > 2 {
			kind = "L"
		}
		g.Edges = append(g.Edges, api.Edge{ID: g.Next, From: x[0], To: x[1], Type: kind})
		g.Next++
	}
	return g
}

// wrongs are graphs that aren't right, by the error that chapter 3's Check tells of them.
func wrongs() map[api.Errno]api.Graph {
	form, who, many, next := sample.Town(), sample.Town(), sample.Town(), sample.Town()
	form.Nodes[0].ID = 0
	who.Edges[4].To = 1
	many.Edges[4].Props = sample.Numbered(7)
	next.Next = 12
	return map[api.Errno]api.Graph{api.ErrForm: form, api.ErrWho: who, api.ErrMany: many, api.ErrRange: next}
}

// byRounds are the pairs of All, found another way: those that two pairs make that meet are laid to them until there are no more.
func byRounds(g api.Graph, kind string) map[[2]int]int {
	out := map[[2]int]int{}
	for _, x := range g.Edges {
		if kind == "" || x.Type == kind {
			out[[2]int{x.From, x.To}] = 1
		}
	}
	for before := -1; before < len(out); {
		before = len(out)
		var more [][2]int
		for p := range out {
			for q := range out {
				if p[1] == q[0] {
					more = append(more, [2]int{p[0], q[1]})
				}
			}
		}
		for _, p := range more {
			out[p] = 1
		}
	}
	return out
}

// byTrying is the way that Path tells, found another way: all ways of one edge, then all of two, and so on, those with lesser numbers first. A way with more edges than there are nodes is never the shortest.
func byTrying(g api.Graph, kind string, from, to int) []int {
	var try func(at, left int) []int
	try = func(at, left int) []int {
		for _, x := range g.Edges {
			if x.From != at || kind != "" && x.Type != kind {
				continue
			}
			if left == 1 && x.To == to {
				return []int{x.ID}
			}
			if left > 1 {
				if behind := try(x.To, left-1); behind != nil {
					return slices.Insert(behind, 0, x.ID)
				}
			}
		}
		return nil
	}
	for left := 1; left <= len(g.Nodes); left++ {
		if way := try(from, left); way != nil {
			return way
		}
	}
	return nil
}
