package fresh_test

import (
	"reflect"
	"testing"

	"espalier/api"
	"espalier/fresh"
	"espalier/sample"
)

// spoil overwrites all that nodes and edges have in lists.
func spoil(nodes []api.Node, edges []api.Edge) {
	props := func(l []api.Prop) {
		for i, p := range l {
			for k := range p.Value.L {
				p.Value.L[k] = sample.Text("spoilt")
			}
			l[i].Name = "spoilt"
		}
	}
	for i, n := range nodes {
		for k := range n.Labels {
			n.Labels[k] = "spoilt"
		}
		props(n.Props)
		nodes[i] = api.Node{}
	}
	for i, x := range edges {
		props(x.Props)
		edges[i] = api.Edge{}
	}
}

func TestGraphIsTheSameAndSharesNothing(t *testing.T) {
	g := sample.Town()
	got := fresh.Graph(g)
	if !reflect.DeepEqual(got, g) {
		t.Errorf("%v", got)
	}
	spoil(got.Nodes, got.Edges)
	if !reflect.DeepEqual(g, sample.Town()) {
		t.Errorf("the answer shares memory with what was handed in: %v", g)
	}
}

func TestDeltaIsTheSameAndSharesNothing(t *testing.T) {
	whole := func() api.Delta {
		a, b := sample.Town(), sample.Town()
		return api.Delta{Gone: a.Nodes[:2], New: b.Nodes, GoneEdges: a.Edges, NewEdges: b.Edges[:1], From: 3, To: 4}
	}
	d := whole()
	got := fresh.Delta(d)
	if !reflect.DeepEqual(got, d) {
		t.Errorf("%v", got)
	}
	spoil(got.Gone, got.GoneEdges)
	spoil(got.New, got.NewEdges)
	if !reflect.DeepEqual(d, whole()) {
		t.Errorf("the answer shares memory with what was handed in: %v", d)
	}
}

// What has nothing in it has no room behind it, either: that may be the caller's.
func TestEmptyListsAreNil(t *testing.T) {
	n := fresh.Node(api.Node{Labels: make([]string, 0, 3), Props: make([]api.Prop, 0, 3)})
	x := fresh.Edge(api.Edge{Props: make([]api.Prop, 0, 3)})
	g := fresh.Graph(api.Graph{Nodes: make([]api.Node, 0, 3), Edges: make([]api.Edge, 0, 3)})
	if n.Labels != nil || n.Props != nil || x.Props != nil || g.Nodes != nil || g.Edges != nil {
		t.Error("an empty list isn't nil")
	}
}
