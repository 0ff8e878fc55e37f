// Package seek finds nodes and edges by their numbers in lists that rise, as those of a graph do, and properties by their names.
package seek

import (
	"cmp"
	"slices"

	"espalier/api"
)

// NodeID is a node's number.
func NodeID(n api.Node) int { return n.ID }

// EdgeID is an edge's number.
func EdgeID(x api.Edge) int { return x.ID }

// Node tells where the node of that number stands, and whether there is one.
func Node(l []api.Node, id int) (int, bool) { return find(l, id, NodeID) }

// Edge tells where the edge of that number stands, and whether there is one.
func Edge(l []api.Edge, id int) (int, bool) { return find(l, id, EdgeID) }

func find[T any](l []T, id int, number func(T) int) (int, bool) {
	return slices.BinarySearchFunc(l, id, func(x T, id int) int { return cmp.Compare(number(x), id) })
}

// Prop is the value of the property of that name; Null, if there is none.
func Prop(l []api.Prop, name string) api.Value {
	for _, p := range l {
		if p.Name == name {
			return p.Value
		}
	}
	return api.Value{}
}
