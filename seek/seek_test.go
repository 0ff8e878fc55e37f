package seek

import (
	"testing"

	"espalier/api"
)

func TestFindsAllThatAreThere(t *testing.T) {
	ids := []int{-1 << 63, -3, 1, 2, 5, 1 << 40, 1<<63 - 1}
	var nodes []api.Node
	var edges []api.Edge
	for at, id := range ids {
		nodes, edges = append(nodes, api.Node{ID: id}), append(edges, api.Edge{ID: id})
		for i, x := range ids {
			n, node := Node(nodes, x)
			e, edge := Edge(edges, x)
			if node != (i <= at) || edge != node || node && (n != i || e != i) {
				t.Errorf("%d among %d: %d, %t, %d, %t", x, at+1, n, node, e, edge)
			}
		}
	}
	for _, id := range []int{0, 3, 4, -4, 1<<40 + 1} {
		if _, found := Node(nodes, id); found {
			t.Errorf("node %d", id)
		}
		if _, found := Edge(edges, id); found {
			t.Errorf("edge %d", id)
		}
	}
}

func TestFindsNothingInNothing(t *testing.T) {
	if i, found := Node(nil, 1); i != 0 || found {
		t.Error("a node")
	}
	if i, found := Edge(nil, 1); i != 0 || found {
		t.Error("an edge")
	}
}
