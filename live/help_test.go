package live

import (
	"strconv"
	"strings"
	"testing"

	"espalier/api"
	"espalier/query"
	"espalier/sample"
	"espalier/txn"
	"espalier/value"
)

// questionOf is that of a text; what stands behind `return` is left out where it doesn't matter.
func questionOf(t *testing.T, text string) api.Query {
	t.Helper()
	if !strings.Contains(text, "return") {
		text += " return 1 as n"
	}
	q, at, e := query.Parse("match " + text)
	if e != api.OK {
		t.Fatalf("%s: %d at %d", text, e, at)
	}
	return q
}

// viewOf is the view of a text's question.
func viewOf(t *testing.T, text string, g api.Graph) api.Hold {
	t.Helper()
	h, e := Start(questionOf(t, text), g)
	if e != api.OK {
		t.Fatalf("%s: %d", text, e)
	}
	return h
}

// changed is a graph behind operations, all of which go.
func changed(t *testing.T, g api.Graph, l ...api.Op) api.Graph {
	t.Helper()
	h, _, at, e := txn.Apply(g, l)
	if e != api.OK {
		t.Fatalf("%v: %d at %d", l, e, at)
	}
	return h
}

// ways is a list of ways as a text: `,` within one, blanks between.
func ways(l [][]int) string {
	var out []string
	for _, way := range l {
		var ids []string
		for _, id := range way {
			ids = append(ids, strconv.Itoa(id))
		}
		out = append(out, strings.Join(ids, ","))
	}
	return strings.Join(out, " ")
}

// rows is a bag as a text: of each row how often, `*`, and the row as a list.
func rows(b api.Bag) string {
	var l []string
	for _, c := range b {
		l = append(l, strconv.Itoa(c.N)+"*"+key(c.R))
	}
	return strings.Join(l, " ")
}

// key is a text that no other row has.
func key(r api.Row) string {
	text, e := value.Print(api.Value{Kind: api.List, L: r})
	if e != api.OK {
		return "error " + strconv.Itoa(int(e))
	}
	return text
}

// loops is a graph of a node with so many edges to itself, each with its number as a property, and some more.
func loops(n, more int) api.Graph {
	g := api.Graph{Nodes: sample.Nodes(1), Edges: sample.Loops(n, 1), Next: n + 2}
	for i, x := range g.Edges {
		g.Edges[i].Props = sample.Props(sample.Prop("x", sample.Int(x.ID+more)))
	}
	return g
}
