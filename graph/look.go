package graph

import (
	"slices"

	"espalier/api"
	"espalier/fresh"
	"espalier/seek"
)

// Prop is a property of a node or an edge; Null, if it hasn't that one.
func Prop(g api.Graph, id int, name string) (api.Value, api.Errno) {
	if e := Check(g); e != api.OK {
		return api.Value{}, e
	}
	props, found := propsOf(g, id)
	if !found {
		return api.Value{}, api.ErrWho
	}
	return fresh.Value(seek.Prop(props, name)), api.OK
}

func propsOf(g api.Graph, id int) ([]api.Prop, bool) {
	if i, found := seek.Node(g.Nodes, id); found {
		return g.Nodes[i].Props, true
	}
	if i, found := seek.Edge(g.Edges, id); found {
		return g.Edges[i].Props, true
	}
	return nil, false
}

// Labelled are the nodes with a label; of "" all.
func Labelled(g api.Graph, label string) ([]int, api.Errno) {
	if e := Check(g); e != api.OK {
		return nil, e
	}
	var l []int
	for _, n := range g.Nodes {
		if HasLabel(n, label) {
			l = append(l, n.ID)
		}
	}
	return l, api.OK
}

// HasLabel tells whether a node has a label; every node has "". It is for the layers behind, too.
func HasLabel(n api.Node, label string) bool { return label == "" || slices.Contains(n.Labels, label) }

// Around are the edges of a type (of "": of any) from a node; in: to it.
func Around(g api.Graph, id int, kind string, in bool) ([]int, api.Errno) {
	if e := Check(g); e != api.OK {
		return nil, e
	}
	if !isNode(g.Nodes, id) {
		return nil, api.ErrWho
	}
	var l []int
	for _, x := range g.Edges {
		end := x.From
		if in {
			end = x.To
		}
		if end == id && (kind == "" || kind == x.Type) {
			l = append(l, x.ID)
		}
	}
	return l, api.OK
}
