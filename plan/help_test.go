package plan

import (
	"slices"
	"strconv"
	"strings"
	"testing"

	"espalier/api"
	"espalier/match"
	"espalier/query"
	"espalier/sample"
	"espalier/term"
	"espalier/value"
)

// questionOf is that of a text; what stands behind `return` is left out where it doesn't matter.
func questionOf(t *testing.T, text string) api.Query {
	t.Helper()
	if !strings.Contains(text, "return") {
		text += " return 1 as n"
	}
	q, at, e := query.Parse("match " + text)
	if e != api.OK {
		t.Fatalf("%s: %d at %d", text, e, at)
	}
	return q
}

// termOf is the term of a text, in which all names are those of nodes.
func termOf(t *testing.T, text string) api.Term {
	t.Helper()
	q, at, e := query.Parse("match (a)-[]->(b)-[]->(c)-[]->(d)-[]->(e) where " + text + " return 1 as n")
	if e != api.OK {
		t.Fatalf("%s: %d at %d", text, e, at)
	}
	return q.Where[0]
}

func scanned() api.Plan { return api.Plan{Kind: api.Scan} }

func hopped(arrow int, p api.Plan) api.Plan {
	return api.Plan{Kind: api.Hop, N: arrow, From: []api.Plan{p}}
}

func siftedBy(w api.Term, p api.Plan) api.Plan {
	return api.Plan{Kind: api.Sift, Where: w, From: []api.Plan{p}}
}

// bare is the plan that asks for nothing, up to so many dots.
func bare(dots int) api.Plan {
	p := scanned()
	for n := range dots - 1 {
		p = hopped(n, p)
	}
	return p
}

// often lays so many Sifts around a plan, each true.
func often(n int, p api.Plan) api.Plan {
	for range n {
		p = siftedBy(sample.Const(api.Value{Kind: api.Bool, N: 1}), p)
	}
	return p
}

// wrote is a plan as a text, the innermost first: scan, then each arrow's number, and each term between square brackets.
func wrote(t *testing.T, q api.Query, p api.Plan) string {
	t.Helper()
	switch p.Kind {
	case api.Scan:
		return "scan"
	case api.Hop:
		return wrote(t, q, p.From[0]) + " " + strconv.Itoa(p.N)
	}
	q.Where = []api.Term{p.Where}
	text, e := query.Print(q)
	if e != api.OK {
		t.Fatalf("%v: %d", p.Where, e)
	}
	_, text, _ = strings.Cut(text, " where ")
	text, _, _ = strings.Cut(text, " return ")
	return wrote(t, q, p.From[0]) + " [" + text + "]"
}

// rows is a bag as a text: of each row how often, `*`, and the row as a list.
func rows(b api.Bag) string {
	var l []string
	for _, c := range b {
		text, e := value.Print(api.Value{Kind: api.List, L: c.R})
		if e != api.OK {
			text = "error " + strconv.Itoa(int(e))
		}
		l = append(l, strconv.Itoa(c.N)+"*"+text)
	}
	return strings.Join(l, " ")
}

// ring is a graph with the most nodes, each with an edge to the one behind it, the last to the first.
func ring() api.Graph {
	g := api.Graph{Nodes: sample.Nodes(api.MaxNodes), Next: 2*api.MaxNodes + 1}
	for i := range api.MaxNodes {
		g.Edges = append(g.Edges, api.Edge{ID: api.MaxNodes + 1 + i, From: i + 1, To: (i+1)%api.MaxNodes + 1, Type: "K"})
	}
	return g
}

// loops is a graph of a node with so many edges to itself.
func loops(n int) api.Graph {
	return api.Graph{Nodes: sample.Nodes(1), Edges: sample.Loops(n, 1), Next: n + 2}
}

// byTheWord are the ways that a plan finds, just as it says: all that is found within, and then each of these for itself. A way tells nodes and edges in turns.
func byTheWord(q api.Query, p api.Plan, g api.Graph) [][]int {
	var out [][]int
	switch p.Kind {
	case api.Scan:
		for _, n := range g.Nodes {
			if d := q.Dots[0]; d.Label == "" || slices.Contains(n.Labels, d.Label) {
				out = append(out, []int{n.ID})
			}
		}
	case api.Hop:
		steps := stepsAlong(q, p.N, g)
		for _, way := range byTheWord(q, p.From[0], g) {
			for _, x := range steps {
				if x[0] == way[len(way)-1] && agrees(q, way, x[1]) {
					out = append(out, append(slices.Clone(way), x[2], x[1]))
				}
			}
		}
	case api.Sift:
		for _, way := range byTheWord(q, p.From[0], g) {
			if isTrue(q, p.Where, way, g) {
				out = append(out, way)
			}
		}
	}
	return out
}

// stepsAlong are those of chapter 8 along one arrow alone: a node, that of its right dot, the edge.
func stepsAlong(q api.Query, arrow int, g api.Graph) [][]int {
	one := api.Query{Dots: []api.Dot{{}, {Label: q.Dots[arrow+1].Label}}, Arrows: q.Arrows[arrow : arrow+1]}
	one.Items = []api.Item{{Name: "n", T: sample.Const(sample.Int(1))}}
	found, _ := match.All(one, g)
	return found
}

// agrees tells whether dots with the name of the next one have that node.
func agrees(q api.Query, way []int, id int) bool {
	next := len(way)/2 + 1
	for i, d := range q.Dots[:next] {
		if d.Name != "" && d.Name == q.Dots[next].Name && way[2*i] != id {
			return false
		}
	}
	return true
}

func isTrue(q api.Query, w api.Term, way []int, g api.Graph) bool {
	var names []string
	var ids []int
	for i, id := range way {
		name := q.Dots[i/2].Name
		if i%2 == 1 {
			name = q.Arrows[i/2].Name
		}
		if name != "" && !slices.Contains(names, name) {
			names, ids = append(names, name), append(ids, id)
		}
	}
	v, e := term.Eval(g, names, ids, w)
	return e == api.OK && v.Kind == api.Bool && v.N == 1
}
