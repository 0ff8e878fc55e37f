package match

import (
	"slices"
	"testing"

	"espalier/api"
	"espalier/query"
	"espalier/reach"
	"espalier/sample"
	"espalier/term"
)

// asked is the question of a pattern, and of where, if it is told behind it.
func asked(t *testing.T, pattern string) api.Query {
	t.Helper()
	q, at, e := query.Parse("match " + pattern + " return 1 as n")
	if e != api.OK {
		t.Fatalf("%s: %d at %d", pattern, e, at)
	}
	return q
}

// drawn is a graph of so many nodes, numbered from 1 on, with edges of the type K behind them: each from, to.
func drawn(nodes int, edges ...[2]int) api.Graph {
	g := api.Graph{Nodes: sample.Nodes(nodes), Next: nodes + 1}
	for _, x := range edges {
		g.Edges = append(g.Edges, api.Edge{ID: g.Next, From: x[0], To: x[1], Type: "K"})
		g.Next++
	}
	return g
}

// row is a graph with the most nodes, each with an edge to the one behind it; a ring: also the last to the first.
func row(ring bool) api.Graph {
	var l [][2]int
	for i := 1; i < api.MaxNodes; i++ {
		l = append(l, [2]int{i, i + 1})
	}
	if ring {
		l = append(l, [2]int{api.MaxNodes, 1})
	}
	return drawn(api.MaxNodes, l...)
}

func equal(a, b [][]int) bool { return slices.EqualFunc(a, b, slices.Equal[[]int]) }

// finds tells that a pattern stands in g in just these ways.
func finds(t *testing.T, pattern string, g api.Graph, want ...[]int) {
	t.Helper()
	if got, e := All(asked(t, pattern), g); e != api.OK || !equal(got, want) {
		t.Errorf("%s: %v, %d, want %v", pattern, got, e, want)
	}
}

// fails tells that there is an error, and nothing beside it.
func fails(t *testing.T, what string, q api.Query, g api.Graph, want api.Errno) {
	t.Helper()
	if got, e := All(q, g); got != nil || e != want {
		t.Errorf("%s: %d ways, %d, want %d", what, len(got), e, want)
	}
}

// byTrying are the ways that All tells, found another way: all nodes and edges are tried at all spots, those with lesser numbers first, and Where is asked last.
func byTrying(q api.Query, g api.Graph) [][]int {
	reached := reachedBy(q, g)
	var out [][]int
	var try func(way []int)
	try = func(way []int) {
		spot := len(way)
		switch arrow := spot - len(q.Dots); {
		case arrow < 0:
			for _, n := range g.Nodes {
				if fits(q, way, n) {
					try(append(way, n.ID))
				}
			}
		case arrow == len(q.Arrows):
			if isTrue(q, g, way) {
				out = append(out, slices.Clone(way))
			}
		case q.Arrows[arrow].Many:
			if reached[arrow][endsOf(q, way, arrow)] > 0 {
				try(append(way, 0))
			}
		default:
			x, ends := q.Arrows[arrow], endsOf(q, way, arrow)
			for _, edge := range g.Edges {
				if ends == [2]int{edge.From, edge.To} && (x.Type == "" || x.Type == edge.Type) {
					try(append(way, edge.ID))
				}
			}
		}
	}
	try(nil)
	return out
}

// reachedBy tells, of each arrow that is Many, which are the pairs of chapter 7.
func reachedBy(q api.Query, g api.Graph) []map[[2]int]int {
	out := make([]map[[2]int]int, len(q.Arrows))
	for i, x := range q.Arrows {
		if x.Many {
			out[i] = map[[2]int]int{}
			pairs, _ := reach.All(g, x.Type)
			for _, p := range pairs {
				out[i][p]++
			}
		}
	}
	return out
}

// fits tells whether the dot behind way may have a node: by its label, and by dots with its name.
func fits(q api.Query, way []int, n api.Node) bool {
	d := q.Dots[len(way)]
	for i, id := range way {
		if d.Name != "" && q.Dots[i].Name == d.Name && id != n.ID {
			return false
		}
	}
	return d.Label == "" || slices.Contains(n.Labels, d.Label)
}

// endsOf are the nodes from which and to which an arrow leads.
func endsOf(q api.Query, way []int, arrow int) [2]int {
	if q.Arrows[arrow].Back {
		return [2]int{way[arrow+1], way[arrow]}
	}
	return [2]int{way[arrow], way[arrow+1]}
}

func isTrue(q api.Query, g api.Graph, way []int) bool {
	if len(q.Where) == 0 {
		return true
	}
	var names []string
	var ids []int
	note := func(name string, id int) {
		if name != "" && !slices.Contains(names, name) {
			names, ids = append(names, name), append(ids, id)
		}
	}
	for i, d := range q.Dots {
		note(d.Name, way[i])
	}
	for i, x := range q.Arrows {
		note(x.Name, way[len(q.Dots)+i])
	}
	v, e := term.Eval(g, names, ids, q.Where[0])
	return e == api.OK && v.Kind == api.Bool && v.N == 1
}
