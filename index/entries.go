package index

import (
	"maps"
	"slices"

	"espalier/api"
	"espalier/fresh"
	"espalier/value"
)

// place is where nodes are found: by a label, and by a property; "": by the label alone.
type place [2]string

// holder is a node at a place, and the value that it has there; Null by the label alone.
type holder struct {
	id int
	v  api.Value
}

// visit tells all nodes of a graph at all their places; those of one place rise.
func visit(g api.Graph, tell func(place, holder)) {
	for _, n := range g.Nodes {
		for _, label := range n.Labels {
			tell(place{label, ""}, holder{id: n.ID})
			for _, p := range n.Props {
				tell(place{label, p.Name}, holder{n.ID, p.Value})
			}
		}
	}
}

// entries are those of a graph that is right.
func entries(g api.Graph) []api.Entry {
	met := map[place][]holder{}
	visit(g, func(at place, h holder) { met[at] = append(met[at], h) })
	var out []api.Entry
	for _, at := range slices.SortedFunc(maps.Keys(met), order) {
		out = append(out, byValue(at, met[at])...)
	}
	return out
}

func order(a, b place) int { return slices.Compare(a[:], b[:]) }

// byValue are the entries of a place: one for each value.
func byValue(at place, l []holder) []api.Entry {
	// Those of the same value must stay as they are, so that they rise.
	slices.SortStableFunc(l, func(a, b holder) int { return value.Order(a.v, b.v) })
	var out []api.Entry
	for i, h := range l {
		if i == 0 || value.Order(l[i-1].v, h.v) != 0 {
			out = append(out, api.Entry{Label: at[0], Prop: at[1], V: fresh.Value(h.v)})
		}
		last := &out[len(out)-1]
		last.IDs = append(last.IDs, h.id)
	}
	return out
}
