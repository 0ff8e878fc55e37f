package grant

import (
	"cmp"
	"slices"

	"espalier/api"
	"espalier/graph"
	"espalier/seek"
)

// sight tells whether somebody sees a node.
type sight func(n api.Node) bool

// sightOf is that of who, for a graph that it finds right.
func sightOf(l []api.Grant, who string, g api.Graph) (sight, api.Errno) {
	if e := cmp.Or(Check(l), graph.Check(g)); e != api.OK {
		return nil, e
	}
	i := slices.IndexFunc(l, isTo(who))
	if i < 0 {
		return nil, api.ErrMay
	}
	return func(n api.Node) bool {
		return slices.ContainsFunc(l[i].Labels, func(s string) bool { return graph.HasLabel(n, s) })
	}, api.OK
}

// isTo asks of a grant whether it is to who.
func isTo(who string) func(api.Grant) bool {
	return func(x api.Grant) bool { return x.Who == who }
}

// part is what of a graph is seen: an edge just if both its ends are. It shares memory with the graph.
func (sees sight) part(g api.Graph) api.Graph {
	out := api.Graph{Next: g.Next}
	for _, n := range g.Nodes {
		if sees(n) {
			out.Nodes = append(out.Nodes, n)
		}
	}
	for _, x := range g.Edges {
		if isNode(out, x.From) && isNode(out, x.To) {
			out.Edges = append(out.Edges, x)
		}
	}
	return out
}

func isNode(g api.Graph, id int) bool {
	_, found := seek.Node(g.Nodes, id)
	return found
}

func isEdge(g api.Graph, id int) bool {
	_, found := seek.Edge(g.Edges, id)
	return found
}
