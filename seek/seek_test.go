package seek

import (
	"testing"

	"espalier/api"
)

func TestFindsAllThatAreThere(t *testing.T) {
	ids := []int{-1 << 63, -3, 1, 2, 5, 1 << 40, 1<<63 - 1}
	var nodes []api.Node
	var edges []api.Edge
	for at, id := range ids {
		nodes, edges = append(nodes, api.Node{ID: id}), append(edges, api.Edge{ID: id})
		for i, x := range ids {
			n, node := Node(nodes, x)
			e, edge := Edge(edges, x)
			if node != (i <= at) || edge != node || node && (n != i || e != i) {
				t.Errorf("%d among %d: %d, %t, %d, %t", x, at+1, n, node, e, edge)
			}
		}
	}
	for _, id := range []int{0, 3, 4, -4, 1<<40 + 1} {
		if _, found := Node(nodes, id); found {
			t.Errorf("node %d", id)
		}
		if _, found := Edge(edges, id); found {
			t.Errorf("edge %d", id)
		}
	}
}

func TestFindsNothingInNothing(t *testing.T) {
	if i, found := Node(nil, 1); i != 0 || found {
		t.Error("a node")
	}
	if i, found := Edge(nil, 1); i != 0 || found {
		t.Error("an edge")
	}
}

func TestPropByName(t *testing.T) {
	l := []api.Prop{{Name: "a", Value: api.Value{Kind: api.Int, N: 1}}, {Name: "b", Value: api.Value{Kind: api.Bool}}, {Name: "c", Value: api.Value{Kind: api.Int, N: 3}}}
	for _, p := range l {
		if v := Prop(l, p.Name); v.Kind != p.Value.Kind || v.N != p.Value.N {
			t.Errorf("%s: %v", p.Name, v)
		}
	}
	for _, name := range []string{"", "A", "ab", "d"} {
		if v := Prop(l, name); v.Kind != api.Null {
			t.Errorf("%q: %v", name, v)
		}
	}
	if v := Prop(nil, "a"); v.Kind != api.Null {
		t.Errorf("of nothing: %v", v)
	}
}
