package txn

import (
	"testing"

	"espalier/api"
)

// changed is a town in which a node and an edge of each sort differ: gone, new, other.
func changed() api.Graph {
	g := town()
	g.Nodes[0].Props[0].Value = num(4)
	g.Nodes[1].Props[0].Value = list(num(1), list(str("b"), api.Value{}))
	g.Nodes[2].Labels = []string{"Person", "Tall"}
	g.Nodes[3].ID = 10
	g.Edges[0].Props = nil
	g.Edges[1].From = 3
	g.Edges[2].To = 3
	g.Edges[3].Type = "LIKES"
	g.Edges[4].ID = 14
	g.Next = 15
	return g
}

func TestBetween(t *testing.T) {
	a, b := town(), changed()
	want := api.Delta{Gone: a.Nodes, New: b.Nodes, GoneEdges: a.Edges, NewEdges: b.Edges, From: 13, To: 15}
	if got, e := Between(town(), changed()); !alike(got, want) || e != api.OK {
		t.Errorf("%v, %d, want %v", got, e, want)
	}
	b = town()
	b.Nodes[2] = changed().Nodes[2]
	b.Edges = append(b.Edges[:1], b.Edges[2:]...)
	want = api.Delta{Gone: a.Nodes[2:3], New: b.Nodes[2:3], GoneEdges: a.Edges[1:2], From: 13, To: 13}
	if got, e := Between(a, b); !alike(got, want) || e != api.OK {
		t.Errorf("%v, %d, want %v", got, e, want)
	}
	if got, e := Between(a, town()); !alike(got, api.Delta{From: 13, To: 13}) || e != api.OK {
		t.Errorf("of the same: %v, %d", got, e)
	}
	want = api.Delta{New: a.Nodes, NewEdges: a.Edges, From: 1 << 40, To: 13}
	if got, e := Between(api.Graph{Next: 1 << 40}, a); !alike(got, want) || e != api.OK {
		t.Errorf("of nothing: %v, %d, want %v", got, e, want)
	}
}

// Lists that have nothing in them are the same, nil or not; nulls within lists are the same, too.
func TestBetweenOfEmptyLists(t *testing.T) {
	null := api.Value{}
	a := api.Graph{Nodes: []api.Node{{ID: 1, Props: props(prop("a", list()), prop("b", list(null)))}}, Edges: []api.Edge{{ID: 2, From: 1, To: 1, Type: "T"}}, Next: 3}
	b := api.Graph{Nodes: []api.Node{{ID: 1, Labels: []string{}, Props: props(prop("a", api.Value{Kind: api.List, L: []api.Value{}}), prop("b", list(null)))}}, Edges: []api.Edge{{ID: 2, From: 1, To: 1, Type: "T", Props: props()}}, Next: 3}
	if got, e := Between(a, b); !alike(got, api.Delta{From: 3, To: 3}) || e != api.OK {
		t.Errorf("%v, %d", got, e)
	}
	if got, e := Turn(a, api.Delta{Gone: b.Nodes, GoneEdges: b.Edges, From: 3, To: 1}); !alike(got, api.Graph{Next: 1}) || e != api.OK {
		t.Errorf("%v, %d", got, e)
	}
}

// Each graph with one thing of changed is another one.
func TestSame(t *testing.T) {
	if !Same(town(), town()) || !Same(api.Graph{}, api.Graph{Nodes: []api.Node{}, Edges: []api.Edge{}}) || Same(town(), api.Graph{Next: 13}) {
		t.Error("a town")
	}
	other := changed()
	var l []api.Graph
	for i := range other.Nodes {
		g := town()
		g.Nodes[i] = other.Nodes[i]
		l = append(l, g)
	}
	for i := range other.Edges {
		g := town()
		g.Edges[i] = other.Edges[i]
		l = append(l, g)
	}
	later, fewer, few := town(), town(), town()
	later.Next++
	fewer.Nodes = fewer.Nodes[:3]
	few.Edges = few.Edges[:4]
	for i, g := range append(l, later, fewer, few) {
		if Same(town(), g) || Same(g, town()) || !Same(g, g) {
			t.Errorf("%d: %v", i, g)
		}
	}
}

func TestBetweenRefuses(t *testing.T) {
	who, reach := town(), town()
	who.Edges[4].To = 1
	reach.Next = 12
	for _, c := range []struct {
		a, b api.Graph
		want api.Errno
	}{{who, town(), api.ErrWho}, {town(), who, api.ErrWho}, {who, reach, api.ErrWho}, {reach, who, api.ErrRange}, {api.Graph{}, town(), api.ErrRange}} {
		if got, e := Between(c.a, c.b); !alike(got, api.Delta{}) || e != c.want {
			t.Errorf("%v, %d, want %d", got, e, c.want)
		}
	}
}

func TestTurn(t *testing.T) {
	d := api.Delta{
		Gone:      []api.Node{town().Nodes[3], town().Nodes[0]},
		New:       []api.Node{{ID: 15}, {ID: 2, Labels: []string{"Cat"}}, {ID: 6}},
		GoneEdges: []api.Edge{town().Edges[4], town().Edges[2]},
		NewEdges:  []api.Edge{{ID: 12, From: 2, To: 15, Type: "OWNS"}, {ID: 8, From: 3, To: 3, Type: "KNOWS"}, {ID: 9, From: 7, To: 6, Type: "KNOWS"}},
		From:      13, To: 20,
	}
	want := api.Graph{
		Nodes: []api.Node{{ID: 2, Labels: []string{"Cat"}}, town().Nodes[1], {ID: 6}, town().Nodes[2], {ID: 15}},
		Edges: []api.Edge{town().Edges[0], town().Edges[1], d.NewEdges[1], d.NewEdges[2], town().Edges[3], d.NewEdges[0]},
		Next:  20,
	}
	got, e := Turn(town(), d)
	if !alike(got, want) || e != api.OK {
		t.Errorf("%v, %d, want %v", got, e, want)
	}
	if got, e = Turn(got, Back(d)); !alike(got, town()) || e != api.OK {
		t.Errorf("back: %v, %d", got, e)
	}
	if got, e := Turn(town(), api.Delta{From: 13, To: 1 << 40}); e != api.OK || got.Next != 1<<40 {
		t.Errorf("Next alone: %v, %d", got, e)
	}
}

// Each of these turns a town into what isn't there, or may not be.
func TestTurnRefuses(t *testing.T) {
	node, edge := town().Nodes[3], town().Edges[4]
	tagged, given, other := node, edge, edge
	tagged.Labels = []string{"A"}
	given.Props = props(prop("a", num(1)))
	other.To = 3
	odd := town().Nodes[1]
	odd.Props = props(prop("likes", api.Value{Kind: api.List, N: 1, L: odd.Props[0].Value.L}))
	type nodes = []api.Node
	type edges = []api.Edge
	for _, c := range []struct {
		what string
		d    api.Delta
		want api.Errno
	}{
		{"another From", api.Delta{From: 12, To: 13, New: make(nodes, 61)}, api.ErrForm},
		{"no From", api.Delta{To: 13}, api.ErrForm},
		{"many nodes", api.Delta{From: 13, To: 13, New: make(nodes, 61), Gone: nodes{tagged}}, api.ErrMany},
		{"many edges", api.Delta{From: 13, To: 13, NewEdges: make(edges, 61), Gone: nodes{tagged}}, api.ErrMany},
		{"nobody goes", api.Delta{From: 13, To: 13, Gone: nodes{{ID: 8}}}, api.ErrForm},
		{"another with the number goes", api.Delta{From: 13, To: 13, Gone: nodes{tagged}}, api.ErrForm},
		{"one with more in a value goes", api.Delta{From: 13, To: 13, Gone: nodes{odd}}, api.ErrForm},
		{"it goes twice", api.Delta{From: 13, To: 13, Gone: nodes{node, node}}, api.ErrForm},
		{"it goes twice, and is there anew", api.Delta{From: 13, To: 13, Gone: nodes{node, node}, New: nodes{node}}, api.ErrForm},
		{"no edge goes", api.Delta{From: 13, To: 13, GoneEdges: edges{{ID: 8}}}, api.ErrForm},
		{"another edge with the number goes", api.Delta{From: 13, To: 13, GoneEdges: edges{given}}, api.ErrForm},
		{"an edge to another goes", api.Delta{From: 13, To: 13, GoneEdges: edges{other}}, api.ErrForm},
		{"an edge goes twice", api.Delta{From: 13, To: 13, GoneEdges: edges{edge, edge}}, api.ErrForm},
		{"a number that is there", api.Delta{From: 13, To: 13, New: nodes{{ID: 9, Labels: names(5)}}}, api.ErrForm},
		{"an edge's number that is there", api.Delta{From: 13, To: 13, NewEdges: edges{{ID: 12, Props: numbered(7)}}}, api.ErrForm},
		{"sixty nodes, one there", api.Delta{From: 13, To: 13, New: append(make(nodes, 59), node)}, api.ErrForm},
		{"sixty nodes", api.Delta{From: 13, To: 13, New: make(nodes, 60)}, api.ErrMany},
		{"fifty-six edges", api.Delta{From: 13, To: 13, NewEdges: make(edges, 56)}, api.ErrMany},
		{"a number twice", api.Delta{From: 13, To: 20, New: nodes{{ID: 15}, {ID: 15}}}, api.ErrForm},
		{"a number twice, the first one wrong", api.Delta{From: 13, To: 20, New: nodes{{ID: 15, Labels: names(5)}, {ID: 15}}}, api.ErrMany},
		{"a number twice, the second one wrong", api.Delta{From: 13, To: 20, New: nodes{{ID: 15}, {ID: 15, Labels: names(5)}}}, api.ErrForm},
		{"a node with an edge's number", api.Delta{From: 13, To: 13, New: nodes{{ID: 5}}}, api.ErrForm},
		{"an edge with a node's number", api.Delta{From: 13, To: 13, NewEdges: edges{{ID: 9, From: 2, To: 2, Type: "T"}}}, api.ErrForm},
		{"a node's number is 0", api.Delta{From: 13, To: 13, New: nodes{{}}}, api.ErrForm},
		{"the least number", api.Delta{From: 13, To: 13, New: nodes{{ID: -1 << 63}, {ID: 1<<63 - 1, Labels: names(5)}}}, api.ErrForm},
		{"a node that is held goes", api.Delta{From: 13, To: 13, Gone: nodes{town().Nodes[0]}}, api.ErrWho},
		{"an edge to nobody", api.Delta{From: 13, To: 14, NewEdges: edges{{ID: 13, From: 2, To: 8, Type: "T"}}}, api.ErrWho},
		{"many labels", api.Delta{From: 13, To: 14, New: nodes{{ID: 13, Labels: names(5)}}}, api.ErrMany},
		{"To is a number that is there", api.Delta{From: 13, To: 12}, api.ErrRange},
		{"To is too great", api.Delta{From: 13, To: 1<<40 + 1}, api.ErrRange},
		{"To is a new number", api.Delta{From: 13, To: 13, New: nodes{{ID: 13}}}, api.ErrRange},
		{"To is 0", api.Delta{From: 13}, api.ErrRange},
	} {
		if got, e := Turn(town(), c.d); !alike(got, api.Graph{}) || e != c.want {
			t.Errorf("%s: %v, %d, want %d", c.what, got, e, c.want)
		}
	}
	bad := town()
	bad.Edges[4].To = 99
	if got, e := Turn(bad, api.Delta{From: 12}); !alike(got, api.Graph{}) || e != api.ErrWho {
		t.Errorf("a wrong graph: %v, %d", got, e)
	}
}

func TestTurnIntoAsMuchAsMayBe(t *testing.T) {
	full := api.Graph{Nodes: nodes(api.MaxNodes), Edges: loops(api.MaxEdges, api.MaxNodes), Next: 101}
	d := api.Delta{New: full.Nodes, NewEdges: full.Edges, From: 1, To: 101}
	if got, e := Turn(api.Graph{Next: 1}, d); !alike(got, full) || e != api.OK {
		t.Errorf("%v, %d", got, e)
	}
	if got, e := Turn(full, Back(d)); !alike(got, api.Graph{Next: 1}) || e != api.OK {
		t.Errorf("%v, %d", got, e)
	}
}

// Of two new ones with the same number the one that was told first stands ahead, however many there are: its error is told.
func TestTurnKeepsTheOrderOfTheSameNumber(t *testing.T) {
	for place := range 19 {
		var l []api.Node
		for i := range 20 {
			n := api.Node{ID: 5}
			if i == place {
				n.Labels = names(5)
			}
			l = append(l, n)
		}
		want := api.ErrForm
		if place == 0 {
			want = api.ErrMany
		}
		// Others behind and ahead, so that much is moved.
		l = append(append([]api.Node{{ID: 9}, {ID: 8}, {ID: 7}}, l...), api.Node{ID: 3}, api.Node{ID: 2}, api.Node{ID: 1})
		if got, e := Turn(api.Graph{Next: 1}, api.Delta{New: l, From: 1, To: 10}); !alike(got, api.Graph{}) || e != want {
			t.Errorf("%d: %v, %d, want %d", place, got, e, want)
		}
	}
}

func TestBack(t *testing.T) {
	a, b := town(), changed()
	d := api.Delta{Gone: a.Nodes[:2], New: b.Nodes[1:], GoneEdges: a.Edges[2:], NewEdges: b.Edges[:1], From: -3, To: 1 << 50}
	want := api.Delta{Gone: b.Nodes[1:], New: a.Nodes[:2], GoneEdges: b.Edges[:1], NewEdges: a.Edges[2:], From: 1 << 50, To: -3}
	if got := Back(d); !alike(got, want) {
		t.Errorf("%v, want %v", got, want)
	}
	if got := Back(want); !alike(got, d) {
		t.Errorf("%v, want %v", got, d)
	}
	if got := Back(api.Delta{}); !alike(got, api.Delta{}) {
		t.Errorf("%v", got)
	}
}
