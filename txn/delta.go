package txn

import (
	"cmp"
	"slices"

	"espalier/api"
	"espalier/fresh"
	"espalier/graph"
	"espalier/seek"
	"espalier/value"
)

// Between is what makes b of a.
func Between(a, b api.Graph) (api.Delta, api.Errno) {
	if e := cmp.Or(graph.Check(a), graph.Check(b)); e != api.OK {
		return api.Delta{}, e
	}
	return fresh.Delta(api.Delta{
		Gone:      lacking(a.Nodes, b.Nodes, sameNode),
		New:       lacking(b.Nodes, a.Nodes, sameNode),
		GoneEdges: lacking(a.Edges, b.Edges, sameEdge),
		NewEdges:  lacking(b.Edges, a.Edges, sameEdge),
		From:      a.Next,
		To:        b.Next,
	}), api.OK
}

// Turn makes of g what d says.
func Turn(g api.Graph, d api.Delta) (api.Graph, api.Errno) {
	if e := graph.Check(g); e != api.OK {
		return api.Graph{}, e
	}
	if d.From != g.Next {
		return api.Graph{}, api.ErrForm
	}
	if len(d.New) > api.MaxEdges || len(d.NewEdges) > api.MaxEdges {
		return api.Graph{}, api.ErrMany
	}
	nodes, fits := turned(g.Nodes, d.Gone, d.New, sameNode, seek.NodeID)
	edges, fit := turned(g.Edges, d.GoneEdges, d.NewEdges, sameEdge, seek.EdgeID)
	if !fits || !fit {
		return api.Graph{}, api.ErrForm
	}
	out := api.Graph{Nodes: nodes, Edges: edges, Next: d.To}
	if e := graph.Check(out); e != api.OK {
		return api.Graph{}, e
	}
	return fresh.Graph(out), api.OK
}

// Back is what undoes d.
func Back(d api.Delta) api.Delta {
	return fresh.Delta(api.Delta{
		Gone: d.New, New: d.Gone,
		GoneEdges: d.NewEdges, NewEdges: d.GoneEdges,
		From: d.To, To: d.From,
	})
}

// Same tells whether two graphs are the same in all. It is for the layers behind: it asks nobody whether they are right, and ends where they differ first.
func Same(a, b api.Graph) bool {
	return a.Next == b.Next && slices.EqualFunc(a.Nodes, b.Nodes, sameNode) && slices.EqualFunc(a.Edges, b.Edges, sameEdge)
}

// lacking are those of a of which b has none the same.
func lacking[T any](a, b []T, same func(x, y T) bool) []T {
	var l []T
	for _, x := range a {
		if !slices.ContainsFunc(b, func(y T) bool { return same(x, y) }) {
			l = append(l, x)
		}
	}
	return l
}

// turned is l without those that are gone and with more, rising by numbers; false: one isn't there to go, or a number is there already. Twice the same number in more is left for Check to tell.
func turned[T any](l, gone, more []T, same func(x, y T) bool, number func(T) int) ([]T, bool) {
	out := slices.Clone(l)
	for _, x := range gone {
		i := slices.IndexFunc(out, func(y T) bool { return same(x, y) })
		if i < 0 {
			return nil, false
		}
		out = slices.Delete(out, i, i+1)
	}
	for _, x := range more {
		if slices.ContainsFunc(out, func(y T) bool { return number(x) == number(y) }) {
			return nil, false
		}
	}
	out = append(out, more...)
	slices.SortStableFunc(out, func(x, y T) int { return cmp.Compare(number(x), number(y)) })
	return out, true
}

func sameNode(a, b api.Node) bool {
	return a.ID == b.ID && slices.Equal(a.Labels, b.Labels) && slices.EqualFunc(a.Props, b.Props, sameProp)
}

func sameEdge(a, b api.Edge) bool {
	return a.ID == b.ID && a.From == b.From && a.To == b.To && a.Type == b.Type && slices.EqualFunc(a.Props, b.Props, sameProp)
}

// sameProp takes Order, not Same: a null within a list is the same as another one here.
func sameProp(a, b api.Prop) bool { return a.Name == b.Name && value.Order(a.Value, b.Value) == 0 }
