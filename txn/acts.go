package txn

import (
	"cmp"
	"slices"

	"espalier/api"
	"espalier/fresh"
	"espalier/graph"
	"espalier/seek"
	"espalier/value"
)

func addNode(w *work, o api.Op) api.Errno {
	if e := cmp.Or(graph.Labels(o.Labels), graph.Props(o.Props)); e != api.OK {
		return e
	}
	if len(w.g.Nodes) >= api.MaxNodes || w.full() {
		return api.ErrFull
	}
	n := api.Node{ID: w.number(), Labels: o.Labels, Props: o.Props}
	w.g.Nodes = append(w.g.Nodes, fresh.Node(n))
	return api.OK
}

func addEdge(w *work, o api.Op) api.Errno {
	if w.node(o.From) == nil || w.node(o.To) == nil {
		return api.ErrWho
	}
	if !graph.Name(o.Name) {
		return api.ErrForm
	}
	if e := graph.Props(o.Props); e != api.OK {
		return e
	}
	if len(w.g.Edges) >= api.MaxEdges || w.full() {
		return api.ErrFull
	}
	x := api.Edge{ID: w.number(), From: o.From, To: o.To, Type: o.Name, Props: o.Props}
	w.g.Edges = append(w.g.Edges, fresh.Edge(x))
	return api.OK
}

func dropNode(w *work, o api.Op) api.Errno {
	i, found := seek.Node(w.g.Nodes, o.ID)
	if !found {
		return api.ErrWho
	}
	if slices.ContainsFunc(w.g.Edges, func(x api.Edge) bool { return x.From == o.ID || x.To == o.ID }) {
		return api.ErrHeld
	}
	w.g.Nodes = slices.Delete(w.g.Nodes, i, i+1)
	return api.OK
}

func dropEdge(w *work, o api.Op) api.Errno {
	i, found := seek.Edge(w.g.Edges, o.ID)
	if !found {
		return api.ErrWho
	}
	w.g.Edges = slices.Delete(w.g.Edges, i, i+1)
	return api.OK
}

func set(w *work, o api.Op) api.Errno {
	l := w.props(o.ID)
	if l == nil {
		return api.ErrWho
	}
	if !graph.Name(o.Name) {
		return api.ErrForm
	}
	if e := value.Check(o.Value); e != api.OK {
		return e
	}
	p := api.Prop{Name: o.Name, Value: fresh.Value(o.Value)}
	return change(l, p, propName, p.Value.Kind != api.Null, api.MaxProps)
}

func tag(w *work, o api.Op) api.Errno { return label(w, o, true) }

func untag(w *work, o api.Op) api.Errno { return label(w, o, false) }

func label(w *work, o api.Op, has bool) api.Errno {
	n := w.node(o.ID)
	if n == nil {
		return api.ErrWho
	}
	if !graph.Name(o.Name) {
		return api.ErrForm
	}
	return change(&n.Labels, o.Name, itself, has, api.MaxLabels)
}

func propName(p api.Prop) string { return p.Name }

func itself(s string) string { return s }

// change lays x into a list that rises by names, in place of the one of its name; without stays: it takes that one out. ErrFull: there would be more than most.
func change[T any](l *[]T, x T, name func(T) string, stays bool, most int) api.Errno {
	i, found := slices.BinarySearchFunc(*l, name(x), func(y T, s string) int { return cmp.Compare(name(y), s) })
	switch {
	case stays && found:
		(*l)[i] = x
	case stays && len(*l) >= most:
		return api.ErrFull
	case stays:
		*l = slices.Insert(*l, i, x)
	case found:
		*l = slices.Delete(*l, i, i+1)
	}
	return api.OK
}

// node is the one of that number; nil, if there is none. It holds until a node is added or dropped.
func (w *work) node(id int) *api.Node {
	if i, found := seek.Node(w.g.Nodes, id); found {
		return &w.g.Nodes[i]
	}
	return nil
}

// props are the properties of the node or edge of that number; nil, if there is none.
func (w *work) props(id int) *[]api.Prop {
	if n := w.node(id); n != nil {
		return &n.Props
	}
	if i, found := seek.Edge(w.g.Edges, id); found {
		return &w.g.Edges[i].Props
	}
	return nil
}
