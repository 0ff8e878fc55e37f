package txn

import (
	"slices"
	"testing"

	"espalier/api"
)

// Each of these operations changes a town in one place.
func TestOperations(t *testing.T) {
	for _, c := range []struct {
		what string
		o    api.Op
		do   func(g *api.Graph)
	}{
		{"a bare node", api.Op{Kind: api.AddNode}, func(g *api.Graph) {
			g.Nodes, g.Next = append(g.Nodes, api.Node{ID: 13}), 14
		}},
		{"a node with all", api.Op{Kind: api.AddNode, Labels: names(4), Props: numbered(6)}, func(g *api.Graph) {
			g.Nodes, g.Next = append(g.Nodes, api.Node{ID: 13, Labels: names(4), Props: numbered(6)}), 14
		}},
		{"what a node hasn't", api.Op{Kind: api.AddNode, ID: -5, From: 77, To: -9, Name: "1", Value: wrongText()}, func(g *api.Graph) {
			g.Nodes, g.Next = append(g.Nodes, api.Node{ID: 13}), 14
		}},
		{"an edge", api.Op{Kind: api.AddEdge, From: 9, To: 2, Name: "OWNS"}, func(g *api.Graph) {
			g.Edges, g.Next = append(g.Edges, api.Edge{ID: 13, From: 9, To: 2, Type: "OWNS"}), 14
		}},
		{"a ring with properties", api.Op{Kind: api.AddEdge, From: 9, To: 9, Name: "A", Props: numbered(6)}, func(g *api.Graph) {
			g.Edges, g.Next = append(g.Edges, api.Edge{ID: 13, From: 9, To: 9, Type: "A", Props: numbered(6)}), 14
		}},
		{"what an edge hasn't", api.Op{Kind: api.AddEdge, ID: -5, From: 9, To: 9, Name: "A", Value: wrongText(), Labels: names(9)}, func(g *api.Graph) {
			g.Edges, g.Next = append(g.Edges, api.Edge{ID: 13, From: 9, To: 9, Type: "A"}), 14
		}},
		{"a node goes", api.Op{Kind: api.DropNode, ID: 9}, func(g *api.Graph) { g.Nodes = g.Nodes[:3] }},
		{"the first edge goes", api.Op{Kind: api.DropEdge, ID: 1}, func(g *api.Graph) { g.Edges = g.Edges[1:] }},
		{"the last edge goes", api.Op{Kind: api.DropEdge, ID: 12}, func(g *api.Graph) { g.Edges = g.Edges[:4] }},
		{"an edge between goes", api.Op{Kind: api.DropEdge, ID: 5}, func(g *api.Graph) { g.Edges = slices.Delete(g.Edges, 2, 3) }},
		{"a property is another", api.Op{Kind: api.Set, ID: 2, Name: "age", Value: str("4")}, func(g *api.Graph) {
			g.Nodes[0].Props[0].Value = str("4")
		}},
		{"a property is the same", api.Op{Kind: api.Set, ID: 2, Name: "age", Value: num(3)}, func(g *api.Graph) {}},
		{"a property ahead", api.Op{Kind: api.Set, ID: 2, Name: "a", Value: num(0)}, func(g *api.Graph) {
			g.Nodes[0].Props = slices.Insert(g.Nodes[0].Props, 0, prop("a", num(0)))
		}},
		{"a property between", api.Op{Kind: api.Set, ID: 2, Name: "kind", Value: list()}, func(g *api.Graph) {
			g.Nodes[0].Props = slices.Insert(g.Nodes[0].Props, 1, prop("kind", list()))
		}},
		{"a property behind", api.Op{Kind: api.Set, ID: 2, Name: "z", Value: api.Value{Kind: api.Bool}}, func(g *api.Graph) {
			g.Nodes[0].Props = append(g.Nodes[0].Props, prop("z", api.Value{Kind: api.Bool}))
		}},
		{"the first property", api.Op{Kind: api.Set, ID: 9, Name: "a", Value: num(0)}, func(g *api.Graph) {
			g.Nodes[3].Props = props(prop("a", num(0)))
		}},
		{"a property goes", api.Op{Kind: api.Set, ID: 2, Name: "age"}, func(g *api.Graph) {
			g.Nodes[0].Props = g.Nodes[0].Props[1:]
		}},
		{"the only property goes", api.Op{Kind: api.Set, ID: 3, Name: "likes"}, func(g *api.Graph) { g.Nodes[1].Props = nil }},
		{"no property goes", api.Op{Kind: api.Set, ID: 2, Name: "b"}, func(g *api.Graph) {}},
		{"no property of none goes", api.Op{Kind: api.Set, ID: 9, Name: "b"}, func(g *api.Graph) {}},
		{"an edge's property", api.Op{Kind: api.Set, ID: 1, Name: "since", Value: num(1)}, func(g *api.Graph) {
			g.Edges[0].Props[0].Value = num(1)
		}},
		{"an edge's first property", api.Op{Kind: api.Set, ID: 12, Name: "a", Value: num(1)}, func(g *api.Graph) {
			g.Edges[4].Props = props(prop("a", num(1)))
		}},
		{"an edge's property goes", api.Op{Kind: api.Set, ID: 1, Name: "since"}, func(g *api.Graph) { g.Edges[0].Props = nil }},
		{"a label ahead", api.Op{Kind: api.Tag, ID: 2, Name: "A"}, func(g *api.Graph) { g.Nodes[0].Labels = []string{"A", "Dog", "Pet"} }},
		{"a label between", api.Op{Kind: api.Tag, ID: 2, Name: "Do_g"}, func(g *api.Graph) { g.Nodes[0].Labels = []string{"Do_g", "Dog", "Pet"} }},
		{"a label behind", api.Op{Kind: api.Tag, ID: 2, Name: "a"}, func(g *api.Graph) { g.Nodes[0].Labels = []string{"Dog", "Pet", "a"} }},
		{"the first label", api.Op{Kind: api.Tag, ID: 9, Name: "a"}, func(g *api.Graph) { g.Nodes[3].Labels = []string{"a"} }},
		{"a label that it has", api.Op{Kind: api.Tag, ID: 2, Name: "Pet"}, func(g *api.Graph) {}},
		{"a label goes", api.Op{Kind: api.Untag, ID: 2, Name: "Dog"}, func(g *api.Graph) { g.Nodes[0].Labels = []string{"Pet"} }},
		{"the only label goes", api.Op{Kind: api.Untag, ID: 7, Name: "Person"}, func(g *api.Graph) { g.Nodes[2].Labels = nil }},
		{"a label that it hasn't goes", api.Op{Kind: api.Untag, ID: 2, Name: "Person"}, func(g *api.Graph) {}},
		{"a value is of Set alone", api.Op{Kind: api.Untag, ID: 9, Name: "a", Value: wrongText(), Props: numbered(9)}, func(g *api.Graph) {}},
	} {
		want := town()
		c.do(&want)
		got, made := done(t, town(), c.o)
		if !alike(got, want) {
			t.Errorf("%s: %v, want %v", c.what, got, want)
		}
		if added := got.Next > 13; added && !slices.Equal(made, []int{13}) || !added && len(made) != 0 {
			t.Errorf("%s: made %v", c.what, made)
		}
	}
}

// Each of these doesn't go, for a reason that is told ahead of all others that hold of it, too.
func TestRefusedOperations(t *testing.T) {
	for _, c := range []struct {
		what string
		o    api.Op
		want api.Errno
	}{
		{"no kind", api.Op{}, api.ErrRange},
		{"a kind below", api.Op{Kind: -1, ID: 9}, api.ErrRange},
		{"a kind above", api.Op{Kind: 8, ID: 9, Name: "a"}, api.ErrRange},
		{"the least kind", api.Op{Kind: -1 << 63}, api.ErrRange},
		{"the greatest kind", api.Op{Kind: 1<<63 - 1}, api.ErrRange},
		{"a node of many labels", api.Op{Kind: api.AddNode, Labels: names(5), Props: props(prop("1", num(1)))}, api.ErrMany},
		{"a node of no label", api.Op{Kind: api.AddNode, Labels: []string{"1"}, Props: numbered(7)}, api.ErrForm},
		{"a node whose labels fall", api.Op{Kind: api.AddNode, Labels: []string{"b", "a"}}, api.ErrForm},
		{"a node of many properties", api.Op{Kind: api.AddNode, Props: numbered(7)}, api.ErrMany},
		{"a node with a null", api.Op{Kind: api.AddNode, Props: props(prop("a", api.Value{}))}, api.ErrForm},
		{"a node with a long text", api.Op{Kind: api.AddNode, Props: props(prop("a", longText()))}, api.ErrMany},
		{"an edge from nobody", api.Op{Kind: api.AddEdge, From: 8, To: 2, Name: "1", Props: numbered(7)}, api.ErrWho},
		{"an edge from 0", api.Op{Kind: api.AddEdge, To: 2, Name: "A"}, api.ErrWho},
		{"an edge to nobody", api.Op{Kind: api.AddEdge, From: 2, To: 8, Name: "1"}, api.ErrWho},
		{"an edge to 0", api.Op{Kind: api.AddEdge, From: 2, Name: "A"}, api.ErrWho},
		{"an edge to Next", api.Op{Kind: api.AddEdge, From: 2, To: 13, Name: "A"}, api.ErrWho},
		{"an edge from an edge", api.Op{Kind: api.AddEdge, From: 1, To: 2, Name: "A"}, api.ErrWho},
		{"an edge to an edge", api.Op{Kind: api.AddEdge, From: 2, To: 1, Name: "A"}, api.ErrWho},
		{"an edge of no type", api.Op{Kind: api.AddEdge, From: 2, To: 2, Props: numbered(7)}, api.ErrForm},
		{"an edge of a type that is none", api.Op{Kind: api.AddEdge, From: 2, To: 2, Name: "A-B", Props: numbered(7)}, api.ErrForm},
		{"an edge of many properties", api.Op{Kind: api.AddEdge, From: 2, To: 2, Name: "A", Props: numbered(7)}, api.ErrMany},
		{"an edge with a wrong text", api.Op{Kind: api.AddEdge, From: 2, To: 2, Name: "A", Props: props(prop("a", wrongText()))}, api.ErrForm},
		{"nobody goes", api.Op{Kind: api.DropNode, ID: 8}, api.ErrWho},
		{"an edge as a node", api.Op{Kind: api.DropNode, ID: 1}, api.ErrWho},
		{"a node from which an edge is", api.Op{Kind: api.DropNode, ID: 3}, api.ErrHeld},
		{"a node to which an edge is", api.Op{Kind: api.DropNode, ID: 2}, api.ErrHeld},
		{"no edge goes", api.Op{Kind: api.DropEdge, ID: 6}, api.ErrWho},
		{"a node as an edge", api.Op{Kind: api.DropEdge, ID: 9}, api.ErrWho},
		{"nobody's property", api.Op{Kind: api.Set, ID: 8, Name: "1", Value: longText()}, api.ErrWho},
		{"0's property", api.Op{Kind: api.Set, Name: "a", Value: num(1)}, api.ErrWho},
		{"no property", api.Op{Kind: api.Set, ID: 9, Value: longText()}, api.ErrForm},
		{"no property of an edge", api.Op{Kind: api.Set, ID: 1, Name: "a b", Value: longText()}, api.ErrForm},
		{"a null of no name", api.Op{Kind: api.Set, ID: 1, Name: "1"}, api.ErrForm},
		{"too long a text", api.Op{Kind: api.Set, ID: 9, Name: "a", Value: longText()}, api.ErrMany},
		{"a wrong text", api.Op{Kind: api.Set, ID: 1, Name: "a", Value: wrongText()}, api.ErrForm},
		{"a null with more in it", api.Op{Kind: api.Set, ID: 2, Name: "age", Value: api.Value{N: 1}}, api.ErrForm},
		{"nobody's label", api.Op{Kind: api.Tag, ID: 8, Name: "1"}, api.ErrWho},
		{"an edge's label", api.Op{Kind: api.Tag, ID: 1, Name: "A"}, api.ErrWho},
		{"no label", api.Op{Kind: api.Tag, ID: 9}, api.ErrForm},
		{"a label that is none", api.Op{Kind: api.Tag, ID: 9, Name: "1"}, api.ErrForm},
		{"nobody's label goes", api.Op{Kind: api.Untag, ID: 8, Name: "1"}, api.ErrWho},
		{"an edge's label goes", api.Op{Kind: api.Untag, ID: 1, Name: "A"}, api.ErrWho},
		{"a label that is none goes", api.Op{Kind: api.Untag, ID: 9, Name: "1"}, api.ErrForm},
	} {
		refused(t, c.what, town(), 0, c.want, c.o)
		refused(t, c.what+", later", town(), 2, c.want, api.Op{Kind: api.DropEdge, ID: 11}, api.Op{Kind: api.Tag, ID: 9, Name: "A"}, c.o, api.Op{})
	}
}

func TestWhatWasAdded(t *testing.T) {
	got, made := done(t, town(),
		api.Op{Kind: api.AddNode},
		api.Op{Kind: api.AddNode, Labels: []string{"A"}},
		api.Op{Kind: api.AddEdge, From: -2, To: -1, Name: "T"},
		api.Op{Kind: api.AddEdge, From: 9, To: -2, Name: "T"},
		api.Op{Kind: api.AddEdge, From: 13, To: 14, Name: "U"},
		api.Op{Kind: api.Set, ID: -1, Name: "n", Value: num(1)},
		api.Op{Kind: api.Set, ID: -3, Name: "n", Value: num(3)},
		api.Op{Kind: api.Set, ID: 16, Name: "n", Value: num(4)},
		api.Op{Kind: api.Tag, ID: -2, Name: "B"},
		api.Op{Kind: api.Untag, ID: -2, Name: "A"},
		api.Op{Kind: api.DropEdge, ID: -5},
		api.Op{Kind: api.AddNode},
		api.Op{Kind: api.DropNode, ID: -6},
		api.Op{Kind: api.AddNode},
	)
	want := town()
	want.Nodes = append(want.Nodes, api.Node{ID: 13, Props: props(prop("n", num(1)))}, api.Node{ID: 14, Labels: []string{"B"}}, api.Node{ID: 19})
	want.Edges = append(want.Edges,
		api.Edge{ID: 15, From: 14, To: 13, Type: "T", Props: props(prop("n", num(3)))},
		api.Edge{ID: 16, From: 9, To: 14, Type: "T", Props: props(prop("n", num(4)))})
	want.Next = 20
	if !alike(got, want) || !slices.Equal(made, []int{13, 14, 15, 16, 17, 18, 19}) {
		t.Errorf("%v, %v, want %v", got, made, want)
	}
}

// A number below 0 is nobody's until so many were added, and when what was added went again.
func TestWhatWasNotAdded(t *testing.T) {
	add := api.Op{Kind: api.AddNode}
	for _, id := range []int{-2, -3, -13, -1 << 40, -1 << 63, -1<<63 + 1} {
		for _, o := range []api.Op{
			{Kind: api.DropNode, ID: id}, {Kind: api.DropEdge, ID: id}, {Kind: api.Set, ID: id, Name: "a"}, {Kind: api.Tag, ID: id, Name: "A"},
			{Kind: api.Untag, ID: id, Name: "A"}, {Kind: api.AddEdge, From: id, To: 2, Name: "A"}, {Kind: api.AddEdge, From: 2, To: id, Name: "A"},
		} {
			refused(t, "one was added", town(), 1, api.ErrWho, add, o)
		}
	}
	refused(t, "none was added", town(), 0, api.ErrWho, api.Op{Kind: api.DropNode, ID: -1})
	refused(t, "an edge to itself", town(), 0, api.ErrWho, api.Op{Kind: api.AddEdge, From: 2, To: -1, Name: "A"})
	refused(t, "it went", town(), 2, api.ErrWho, add, api.Op{Kind: api.DropNode, ID: -1}, api.Op{Kind: api.Tag, ID: -1, Name: "A"})
	refused(t, "a node as an edge", town(), 1, api.ErrWho, add, api.Op{Kind: api.DropEdge, ID: -1})
	refused(t, "an edge as a node", town(), 1, api.ErrWho, api.Op{Kind: api.AddEdge, From: 2, To: 2, Name: "A"}, api.Op{Kind: api.Tag, ID: -1, Name: "A"})
	refused(t, "it is held", town(), 2, api.ErrHeld, add, api.Op{Kind: api.AddEdge, From: -1, To: -1, Name: "A"}, api.Op{Kind: api.DropNode, ID: -1})
}

func TestNoRoom(t *testing.T) {
	add, join := api.Op{Kind: api.AddNode}, api.Op{Kind: api.AddEdge, From: 1, To: 1, Name: "T"}
	full := api.Graph{Nodes: nodes(api.MaxNodes), Edges: loops(api.MaxEdges, api.MaxNodes), Next: 101}
	refused(t, "nodes", full, 0, api.ErrFull, add)
	refused(t, "edges", full, 0, api.ErrFull, join)
	refused(t, "a wrong label is told ahead", full, 0, api.ErrForm, api.Op{Kind: api.AddNode, Labels: []string{"1"}})
	refused(t, "a wrong property is told ahead", full, 0, api.ErrMany, api.Op{Kind: api.AddNode, Props: numbered(7)})
	refused(t, "an edge's wrong property is told ahead", full, 0, api.ErrMany, api.Op{Kind: api.AddEdge, From: 1, To: 1, Name: "T", Props: numbered(7)})
	if got, made := done(t, full, api.Op{Kind: api.DropNode, ID: 40}, add, api.Op{Kind: api.DropEdge, ID: 41}, join); len(got.Nodes) != 40 || len(got.Edges) != 60 || !slices.Equal(made, []int{101, 102}) {
		t.Errorf("%v, %v", got, made)
	}

	last := api.Graph{Nodes: nodes(1), Next: 1<<40 - 1}
	if got, made := done(t, last, add); got.Next != 1<<40 || !slices.Equal(made, []int{1<<40 - 1}) {
		t.Errorf("%v, %v", got, made)
	}
	if got, made := done(t, last, join); got.Next != 1<<40 || !slices.Equal(made, []int{1<<40 - 1}) {
		t.Errorf("%v, %v", got, made)
	}
	for _, l := range [][]api.Op{{add, add}, {add, join}, {join, add}, {join, join}, {add, {Kind: api.DropNode, ID: -1}, add}} {
		refused(t, "numbers", last, len(l)-1, api.ErrFull, l...)
	}

	rich := api.Graph{Nodes: []api.Node{{ID: 1, Labels: names(4), Props: numbered(6)}}, Edges: []api.Edge{{ID: 2, From: 1, To: 1, Type: "T", Props: numbered(6)}}, Next: 3}
	for _, id := range []int{1, 2} {
		refused(t, "properties", rich, 0, api.ErrFull, api.Op{Kind: api.Set, ID: id, Name: "a", Value: num(1)})
		done(t, rich, api.Op{Kind: api.Set, ID: id, Name: "a"}, api.Op{Kind: api.Set, ID: id, Name: "n5", Value: num(1)}, api.Op{Kind: api.Set, ID: id, Name: "n0"}, api.Op{Kind: api.Set, ID: id, Name: "z", Value: num(1)})
	}
	refused(t, "labels", rich, 0, api.ErrFull, api.Op{Kind: api.Tag, ID: 1, Name: "a"})
	done(t, rich, api.Op{Kind: api.Tag, ID: 1, Name: "n2"}, api.Op{Kind: api.Untag, ID: 1, Name: "a"}, api.Op{Kind: api.Untag, ID: 1, Name: "n0"}, api.Op{Kind: api.Tag, ID: 1, Name: "a"})
}

func TestManyOperations(t *testing.T) {
	var l []api.Op
	for range api.MaxOps {
		l = append(l, api.Op{Kind: api.AddNode})
	}
	if got, made := done(t, town(), l...); len(got.Nodes) != 24 || len(made) != 20 || got.Next != 33 {
		t.Errorf("%v, %v", got, made)
	}
	refused(t, "one more", town(), 0, api.ErrMany, append(l, api.Op{})...)
	l[3] = api.Op{}
	refused(t, "one more, ahead of a wrong one", town(), 0, api.ErrMany, append(l, api.Op{})...)
	refused(t, "as many, a wrong one", town(), 3, api.ErrRange, l...)
	if got, made := done(t, town()); !alike(got, town()) || len(made) != 0 {
		t.Errorf("none: %v, %v", got, made)
	}
	bad := town()
	bad.Next = 3
	refused(t, "a wrong graph, ahead of many", bad, 0, api.ErrRange, append(l, api.Op{})...)
	bad.Edges[4].To = 99
	refused(t, "a wrong graph, ahead of a wrong one", bad, 0, api.ErrWho, api.Op{})
}
