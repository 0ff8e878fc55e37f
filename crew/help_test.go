package crew

import (
	"slices"
	"strconv"
	"strings"
	"testing"

	"espalier/api"
	"espalier/sample"
	"espalier/value"
)

// Questions that these tests ask again and again.
const (
	nodes = "match (a) return a as n"
	many  = "match (a) return count(1) as n"
	// steps stands in n*n*n*n*n ways where n nodes reach each other: with 4 of them it may, with 5 there are too many.
	steps = "match ()-[*]->()-[*]->()-[*]->()-[*]->() return count(1) as n"
	// slow takes long where many nodes reach each other: all ways must be tried, and none is told.
	slow = "match (a)-[*]->(b)-[*]->(c)-[*]->(d)-[*]->(e) where a + b + c + d + e < 0 return a as n"
)

// ring is a graph of so many nodes, numbered from 1 on, with an edge from each to the next, and from the last to the first.
func ring(n int) api.Graph {
	g := api.Graph{Nodes: sample.Nodes(n), Next: 2*n + 1}
	for i := range n {
		g.Edges = append(g.Edges, api.Edge{ID: n + 1 + i, From: i + 1, To: (i+1)%n + 1, Type: "K"})
	}
	return g
}

// wrote is a text of a bag: of each row how often, `*`, and the row.
func wrote(b api.Bag) string {
	var l []string
	for _, c := range b {
		text, e := value.Print(api.Value{Kind: api.List, L: c.R})
		if e != api.OK {
			text = "error " + strconv.Itoa(int(e))
		}
		l = append(l, strconv.Itoa(c.N)+"*"+text)
	}
	return strings.Join(l, " ")
}

// tells holds what texts tell against bags, as texts, and errors; with an error there is no bag at all.
func tells(t *testing.T, what string, l []string, g api.Graph, want []string, errs []api.Errno) {
	t.Helper()
	bags, e := Ask(l, g)
	var got []string
	for _, b := range bags {
		got = append(got, wrote(b))
	}
	if !slices.Equal(got, want) || !slices.Equal(e, errs) {
		t.Errorf("%s: %q, %v, want %q, %v", what, got, e, want, errs)
	}
	for i := range min(len(bags), len(e)) {
		if e[i] != api.OK && bags[i] != nil {
			t.Errorf("%s: %d: %v with the error %d", what, i, bags[i], e[i])
		}
	}
}
