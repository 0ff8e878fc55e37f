package graph

import (
	"strings"
	"testing"

	"espalier/api"
)

func TestName(t *testing.T) {
	first := "abcdefghijklmnopqrstuvwxyzABCDEFGHIJKLMNOPQRSTUVWXYZ_"
	behind := first + "0123456789"
	for c := range 256 {
		s := string([]byte{byte(c)})
		if got := Name(s); got != strings.Contains(first, s) {
			t.Errorf("%q: %t", s, got)
		}
		for _, x := range []string{"a" + s, "Z9" + s, "_" + s + "_", strings.Repeat("a", 11) + s} {
			if got := Name(x); got != strings.Contains(behind, s) {
				t.Errorf("%q: %t", x, got)
			}
		}
	}
	for _, s := range []string{"_", "__", "_1", "a1", "Person", "KNOWS", "a_b_c", strings.Repeat("z", api.MaxName), "null"} {
		if !Name(s) {
			t.Errorf("%q isn't taken", s)
		}
	}
	for _, s := range []string{"", "1", "1a", "a b", " a", "a ", "a-b", "é", "aé", "a\x00", "a\n", strings.Repeat("z", api.MaxName+1), strings.Repeat("z", 1<<20)} {
		if Name(s) {
			t.Errorf("%q is taken", s)
		}
	}
}

func TestLabels(t *testing.T) {
	bad := append(names(4), "n0")
	for _, c := range []struct {
		what string
		l    []string
		want api.Errno
	}{
		{"none", nil, api.OK},
		{"none, but not nil", []string{}, api.OK},
		{"one", []string{"A"}, api.OK},
		{"two", []string{"A", "B"}, api.OK},
		{"by bytes", []string{"B", "_", "a"}, api.OK},
		{"a longer one behind", []string{"A", "A1", "AA"}, api.OK},
		{"as many as may be", names(api.MaxLabels), api.OK},
		{"too many", names(api.MaxLabels + 1), api.ErrMany},
		{"too many, and in no order", bad, api.ErrMany},
		{"too many, and no names", make([]string, 5), api.ErrMany},
		{"empty", []string{""}, api.ErrForm},
		{"no name", []string{"1"}, api.ErrForm},
		{"no name behind", []string{"A", "B C"}, api.ErrForm},
		{"too long", []string{strings.Repeat("a", 13)}, api.ErrForm},
		{"twice", []string{"A", "A"}, api.ErrForm},
		{"falling", []string{"B", "A"}, api.ErrForm},
		{"falling at the end", []string{"A", "C", "B"}, api.ErrForm},
		{"not by letters alone", []string{"a", "B"}, api.ErrForm},
		{"a longer one ahead", []string{"A1", "A"}, api.ErrForm},
	} {
		if got := Labels(c.l); got != c.want {
			t.Errorf("%s: %d, want %d", c.what, got, c.want)
		}
	}
}

func TestProps(t *testing.T) {
	one, null := num(1), api.Value{}
	for _, c := range []struct {
		what string
		l    []api.Prop
		want api.Errno
	}{
		{"none", nil, api.OK},
		{"none, but not nil", props(), api.OK},
		{"of all kinds", props(prop("a", api.Value{Kind: api.Bool}), prop("b", one), prop("c", str("")), prop("d", list(null))), api.OK},
		{"as many as may be", numbered(api.MaxProps), api.OK},
		{"too many", numbered(api.MaxProps + 1), api.ErrMany},
		{"too many, and all wrong", make([]api.Prop, 7), api.ErrMany},
		{"no name", props(prop("1", one)), api.ErrForm},
		{"an empty name", props(prop("", one)), api.ErrForm},
		{"too long a name", props(prop(strings.Repeat("a", 13), one)), api.ErrForm},
		{"twice", props(prop("a", one), prop("a", num(2))), api.ErrForm},
		{"falling", props(prop("b", one), prop("a", one)), api.ErrForm},
		{"falling at the end", props(prop("a", one), prop("c", one), prop("b", one)), api.ErrForm},
		{"null", props(prop("a", null)), api.ErrForm},
		{"null with more in it", props(prop("a", api.Value{N: 1})), api.ErrForm},
		{"no kind", props(prop("a", api.Value{Kind: 9})), api.ErrForm},
		{"no text", props(prop("a", wrongText())), api.ErrForm},
		{"too long a text", props(prop("a", longText())), api.ErrMany},
		{"too long a list", props(prop("a", list(make([]api.Value, 31)...))), api.ErrMany},
		{"no name, and too long a text", props(prop("1", longText())), api.ErrForm},
		{"falling, and too long a text", props(prop("b", one), prop("a", longText())), api.ErrForm},
		{"too long a text ahead of no name", props(prop("b", longText()), prop("1", one)), api.ErrMany},
		{"too long a text ahead of a null", props(prop("a", longText()), prop("b", null)), api.ErrMany},
		{"null ahead of too long a text", props(prop("a", null), prop("b", longText())), api.ErrForm},
	} {
		if got := Props(c.l); got != c.want {
			t.Errorf("%s: %d, want %d", c.what, got, c.want)
		}
	}
}

func TestCheckTakes(t *testing.T) {
	for what, g := range map[string]api.Graph{
		"a town":                   town(),
		"nothing":                  {Next: 1},
		"nothing, but much behind": {Next: 1 << 40, Nodes: []api.Node{}, Edges: []api.Edge{}},
		"as much as may be":        {Nodes: nodes(api.MaxNodes), Edges: loops(api.MaxEdges, api.MaxNodes), Next: 101},
		"the greatest number":      {Nodes: []api.Node{{ID: 1<<40 - 1}}, Next: 1 << 40},
		"an edge's greatest":       {Nodes: nodes(1), Edges: loops(1, 1<<40-2), Next: 1 << 40},
	} {
		if e := Check(g); e != api.OK {
			t.Errorf("%s: %d", what, e)
		}
	}
}

// Each of these makes a town wrong, in one place.
func TestCheckRefuses(t *testing.T) {
	for _, c := range []struct {
		what string
		do   func(g *api.Graph)
		want api.Errno
	}{
		{"too many nodes", func(g *api.Graph) { g.Nodes = append(g.Nodes, make([]api.Node, 37)...) }, api.ErrMany},
		{"too many edges", func(g *api.Graph) { g.Edges = append(g.Edges, make([]api.Edge, 56)...) }, api.ErrMany},
		{"a node's number is 0", func(g *api.Graph) { g.Nodes[0].ID = 0 }, api.ErrForm},
		{"a node's number is below 0", func(g *api.Graph) { g.Nodes[0].ID = -2 }, api.ErrForm},
		{"a node's number is least", func(g *api.Graph) { g.Nodes[0].ID = -1 << 63 }, api.ErrForm},
		{"a node's labels fall", func(g *api.Graph) { g.Nodes[0].Labels = []string{"B", "A"} }, api.ErrForm},
		{"a node has many labels", func(g *api.Graph) { g.Nodes[0].Labels = names(5) }, api.ErrMany},
		{"a node's property has no name", func(g *api.Graph) { g.Nodes[0].Props[0].Name = "" }, api.ErrForm},
		{"a node's property is null", func(g *api.Graph) { g.Nodes[0].Props[0].Value = api.Value{} }, api.ErrForm},
		{"a node's property is too long", func(g *api.Graph) { g.Nodes[0].Props[0].Value = longText() }, api.ErrMany},
		{"a node's number is that ahead", func(g *api.Graph) { g.Nodes[2].ID = 3 }, api.ErrForm},
		{"a node's number is below that ahead", func(g *api.Graph) { g.Nodes[2].ID = 1 }, api.ErrForm},
		{"a node has many properties", func(g *api.Graph) { g.Nodes[3].Props = numbered(7) }, api.ErrMany},
		{"an edge's number is 0", func(g *api.Graph) { g.Edges[0].ID = 0 }, api.ErrForm},
		{"an edge's number is below 0", func(g *api.Graph) { g.Edges[0].ID = -1 }, api.ErrForm},
		{"an edge's number is a node's", func(g *api.Graph) { g.Edges[0].ID = 3 }, api.ErrForm},
		{"an edge's type is none", func(g *api.Graph) { g.Edges[0].Type = "" }, api.ErrForm},
		{"an edge's type is no name", func(g *api.Graph) { g.Edges[0].Type = "KN OWS" }, api.ErrForm},
		{"an edge from nobody", func(g *api.Graph) { g.Edges[0].From = 8 }, api.ErrWho},
		{"an edge from 0", func(g *api.Graph) { g.Edges[0].From = 0 }, api.ErrWho},
		{"an edge from an edge", func(g *api.Graph) { g.Edges[0].From = 1 }, api.ErrWho},
		{"an edge to nobody", func(g *api.Graph) { g.Edges[0].To = 10 }, api.ErrWho},
		{"an edge to -2", func(g *api.Graph) { g.Edges[0].To = -2 }, api.ErrWho},
		{"an edge to an edge", func(g *api.Graph) { g.Edges[0].To = 4 }, api.ErrWho},
		{"an edge's property is no text", func(g *api.Graph) { g.Edges[0].Props[0].Value = wrongText() }, api.ErrForm},
		{"an edge has many properties", func(g *api.Graph) { g.Edges[0].Props = numbered(7) }, api.ErrMany},
		{"an edge's number is that ahead", func(g *api.Graph) { g.Edges[2].ID = 4 }, api.ErrForm},
		{"an edge's number is below that ahead", func(g *api.Graph) { g.Edges[2].ID = 1 }, api.ErrForm},
		{"an edge's number is a node's, later", func(g *api.Graph) { g.Edges[2].ID = 9 }, api.ErrForm},
		{"an edge to nobody, later", func(g *api.Graph) { g.Edges[3].To = 13 }, api.ErrWho},
		{"the last edge has many properties", func(g *api.Graph) { g.Edges[4].Props = numbered(7) }, api.ErrMany},
		{"Next is the last edge's", func(g *api.Graph) { g.Next = 12 }, api.ErrRange},
		{"Next is below the last edge's", func(g *api.Graph) { g.Next = 10 }, api.ErrRange},
		{"Next is 0", func(g *api.Graph) { g.Next = 0 }, api.ErrRange},
		{"Next is too great", func(g *api.Graph) { g.Next = 1<<40 + 1 }, api.ErrRange},
		{"Next is greatest", func(g *api.Graph) { g.Next = 1<<63 - 1 }, api.ErrRange},
	} {
		g := town()
		c.do(&g)
		if got := Check(g); got != c.want {
			t.Errorf("%s: %d, want %d", c.what, got, c.want)
		}
	}
}

func TestCheckTellsTheFirst(t *testing.T) {
	bad := town()
	bad.Next = 0
	step := func(what string, want api.Errno) {
		t.Helper()
		if got := Check(bad); got != want {
			t.Errorf("%s: %d, want %d", what, got, want)
		}
	}
	step("Next", api.ErrRange)
	bad.Edges[4].Props = numbered(7)
	step("the last edge's properties, ahead of Next", api.ErrMany)
	bad.Edges[4].From = 1
	step("who, ahead of properties", api.ErrWho)
	bad.Edges[4].Type = "1"
	step("the type, ahead of who", api.ErrForm)
	bad.Edges[2].Props = numbered(7)
	step("an edge ahead", api.ErrMany)
	bad.Edges[2].To = 99
	step("who, in an edge ahead", api.ErrWho)
	bad.Edges[2].ID = 3
	step("a node's number, ahead of who", api.ErrForm)
	bad.Nodes[3].Props = props(prop("a", longText()))
	step("a node, ahead of edges", api.ErrMany)
	bad.Nodes[3].Labels = []string{"1"}
	step("labels, ahead of properties", api.ErrForm)
	bad.Nodes[1].Props = numbered(7)
	step("a node ahead", api.ErrMany)
	bad.Nodes[1].ID = 2
	step("a number, ahead of properties", api.ErrForm)
	bad.Nodes[0].Labels = names(5)
	step("many labels, of the first node", api.ErrMany)
	bad.Nodes[0].ID = 0
	step("the number of the first node", api.ErrForm)
	bad.Edges = make([]api.Edge, 61)
	step("many edges, ahead of all", api.ErrMany)
}

// Next is the number of the next one, and that must be above 0, also if it is the first.
func TestNextOfNothing(t *testing.T) {
	for _, next := range []int{0, -1, -1 << 63, 1<<40 + 1} {
		if e := Check(api.Graph{Next: next}); e != api.ErrRange {
			t.Errorf("%d: %d", next, e)
		}
	}
	for what, g := range map[string]api.Graph{
		"the node's":            {Nodes: nodes(3), Next: 3},
		"the node's, not edges": {Nodes: []api.Node{{ID: 1}, {ID: 8}}, Edges: loops(1, 4), Next: 8},
		"the edge's":            {Nodes: nodes(1), Edges: loops(2, 1), Next: 3},
		"a number too great":    {Nodes: []api.Node{{ID: 1 << 40}}, Next: 1<<40 + 1},
		"none above":            {Nodes: []api.Node{{ID: 1<<63 - 1}}, Next: -1 << 63},
	} {
		if e := Check(g); e != api.ErrRange {
			t.Errorf("%s: %d", what, e)
		}
	}
}
