package port

import (
	"fmt"
	"strings"
	"testing"

	"espalier/api"
	"espalier/fresh"
	"espalier/sample"
)

// Short names of what these tests say again and again.
var (
	num, str, lot, prop, props = sample.Int, sample.Text, sample.List, sample.Prop, sample.Props
	longText, wrongText, town  = sample.LongText, sample.WrongText, sample.Town
	nodes, loops               = sample.Nodes, sample.Loops
	names, numbered            = sample.Names, sample.Numbered
	null                       = api.Value{}
)

// mostBytes is how many the text of a graph may have.
const mostBytes = 40000

// townText is what Print tells of the town.
const townText = `next 13
node 2 :Dog :Pet age=3 name='Rex'
node 3 :Person likes=[1,['a',null]]
node 7 :Person
node 9
edge 1 3 2 :OWNS since=2020
edge 4 7 3 :KNOWS
edge 5 7 7 :KNOWS
edge 11 3 7 :KNOWS
edge 12 3 7 :OWNS
`

func letters(n int) string { return strings.Repeat("a", n) }

// one is a graph of a node with these properties.
func one(p ...api.Prop) api.Graph {
	return api.Graph{Nodes: []api.Node{{ID: 1, Props: p}}, Next: 2}
}

// full is a graph that has as many of all things as may be.
func full() api.Graph {
	g := api.Graph{Nodes: nodes(api.MaxNodes), Edges: loops(api.MaxEdges, api.MaxNodes), Next: 101}
	for i := range g.Nodes {
		g.Nodes[i].Labels, g.Nodes[i].Props = names(api.MaxLabels), numbered(api.MaxProps)
	}
	for i := range g.Edges {
		g.Edges[i].Props = numbered(api.MaxProps)
	}
	return g
}

// sized is a graph whose text has so many bytes, from some 38,000 to 41,000.
func sized(long int) api.Graph {
	g := api.Graph{Nodes: nodes(13), Next: 14}
	left := long - len("next 14\n") - 9*len("node 1\n") - 4*len("node 10\n")
	for i := range g.Nodes {
		here := left
		if i < 12 {
			here = 3100
		}
		g.Nodes[i].Props = props(prop("p", str(letters(here-len(" p=''")))))
		left -= here
	}
	return g
}

// told is a graph as a text that no other has: lists that have nothing in them are the same.
func told(g api.Graph) string { return fmt.Sprintf("%#v", fresh.Graph(g)) }

// printed is the text of a graph that must have one.
func printed(t *testing.T, g api.Graph) string {
	t.Helper()
	s, e := Print(g)
	if e != api.OK {
		t.Fatalf("%.500s: %d", told(g), e)
	}
	return s
}

// checkRead tells of a text that isn't read as a graph.
func checkRead(t *testing.T, s string, want api.Graph) {
	t.Helper()
	if g, at, e := Parse(s); told(g) != told(want) || at != 0 || e != api.OK {
		t.Errorf("%.200q: %.500s, %d, %d, want %.500s", s, told(g), at, e, told(want))
	}
}

// checkRefused tells of a text that isn't refused so.
func checkRefused(t *testing.T, s string, at int, e api.Errno) {
	t.Helper()
	if g, where, got := Parse(s); told(g) != told(api.Graph{}) || where != at || got != e {
		t.Errorf("%.200q: %.200s, %d, %d, want %d, %d", s, told(g), where, got, at, e)
	}
}
