package fresh

import "espalier/api"

// each is what lay makes of each of l; nothing of an empty one, as room behind it may belong to the caller.
func each[T any](l []T, lay func(T) T) []T {
	var out []T
	for _, x := range l {
		out = append(out, lay(x))
	}
	return out
}

// Node is n, its lists in memory of their own.
func Node(n api.Node) api.Node {
	n.Labels = append([]string(nil), n.Labels...)
	n.Props = each(n.Props, prop)
	return n
}

// Edge is x, its lists in memory of their own.
func Edge(x api.Edge) api.Edge {
	x.Props = each(x.Props, prop)
	return x
}

func prop(p api.Prop) api.Prop {
	p.Value = Value(p.Value)
	return p
}

// Graph is g, all lists within it in memory of their own.
func Graph(g api.Graph) api.Graph {
	g.Nodes = each(g.Nodes, Node)
	g.Edges = each(g.Edges, Edge)
	return g
}

// Delta is d, all lists within it in memory of their own.
func Delta(d api.Delta) api.Delta {
	d.Gone, d.New = each(d.Gone, Node), each(d.New, Node)
	d.GoneEdges, d.NewEdges = each(d.GoneEdges, Edge), each(d.NewEdges, Edge)
	return d
}
