package match

import (
	"slices"
	"strings"
	"testing"

	"espalier/api"
	"espalier/sample"
)

func TestDots(t *testing.T) {
	g := sample.Town()
	finds(t, "(a)", g, []int{2}, []int{3}, []int{7}, []int{9})
	finds(t, "()", g, []int{2}, []int{3}, []int{7}, []int{9})
	finds(t, "(a:Person)", g, []int{3}, []int{7})
	finds(t, "(:Dog)", g, []int{2})
	finds(t, "(:Pet)", g, []int{2})
	finds(t, "(a:Cat)", g)
	finds(t, "(a:person)", g)
	finds(t, "(a:KNOWS)", g)
	finds(t, "(a)", api.Graph{Next: 1})
	finds(t, "(a)-[]->(b)", api.Graph{Next: 1})
	finds(t, "(a)-[*]->(b)", drawn(3))
}

func TestArrows(t *testing.T) {
	g := sample.Town()
	finds(t, "(a)-[e]->(b)", g, []int{3, 2, 1}, []int{3, 7, 11}, []int{3, 7, 12}, []int{7, 3, 4}, []int{7, 7, 5})
	finds(t, "()-[]->()", g, []int{3, 2, 1}, []int{3, 7, 11}, []int{3, 7, 12}, []int{7, 3, 4}, []int{7, 7, 5})
	finds(t, "(a)<-[]-(b)", g, []int{2, 3, 1}, []int{3, 7, 4}, []int{7, 3, 11}, []int{7, 3, 12}, []int{7, 7, 5})
	finds(t, "(a)-[:OWNS]->(b)", g, []int{3, 2, 1}, []int{3, 7, 12})
	finds(t, "(a)<-[:OWNS]-(b)", g, []int{2, 3, 1}, []int{7, 3, 12})
	finds(t, "(a:Person)-[:OWNS]->(b:Person)", g, []int{3, 7, 12})
	finds(t, "(a:Dog)<-[e]-(b)", g, []int{2, 3, 1})
	finds(t, "(a:Dog)-[e]->(b)", g)
	finds(t, "(a)-[:Person]->(b)", g)
	finds(t, "(a)-[:OWNS]->(b)-[:KNOWS]->(c)", g, []int{3, 7, 3, 12, 4}, []int{3, 7, 7, 12, 5})
	finds(t, "(a)-[:OWNS]->()<-[:KNOWS]-(c)", g, []int{3, 7, 3, 12, 11}, []int{3, 7, 7, 12, 5})
}

// Nothing says that two arrows have two edges, or two dots two nodes.
func TestTheSameAgain(t *testing.T) {
	g := drawn(2, [2]int{1, 1}, [2]int{1, 2})
	finds(t, "(a)-[]->(b)-[]->(c)", g, []int{1, 1, 1, 3, 3}, []int{1, 1, 2, 3, 4})
	finds(t, "(a)-[]->(b)<-[]-(c)", g, []int{1, 1, 1, 3, 3}, []int{1, 2, 1, 4, 4})
	finds(t, "()-[]->()-[]->()-[]->()-[]->()", g, []int{1, 1, 1, 1, 1, 3, 3, 3, 3}, []int{1, 1, 1, 1, 2, 3, 3, 3, 4})
	finds(t, "(a)-[*]->(b)<-[*]-(c)", g, []int{1, 1, 1, 0, 0}, []int{1, 2, 1, 0, 0})
}

func TestArrowsThatAreMany(t *testing.T) {
	g := sample.Town()
	finds(t, "(a)-[*]->(b)", g, []int{3, 2, 0}, []int{3, 3, 0}, []int{3, 7, 0}, []int{7, 2, 0}, []int{7, 3, 0}, []int{7, 7, 0})
	finds(t, "(a)<-[*]-(b)", g, []int{2, 3, 0}, []int{2, 7, 0}, []int{3, 3, 0}, []int{3, 7, 0}, []int{7, 3, 0}, []int{7, 7, 0})
	finds(t, "(a)-[:OWNS*]->(b)", g, []int{3, 2, 0}, []int{3, 7, 0})
	finds(t, "(a)<-[:OWNS*]-(b)", g, []int{2, 3, 0}, []int{7, 3, 0})
	finds(t, "(a:Dog)<-[*]-(b)", g, []int{2, 3, 0}, []int{2, 7, 0})
	finds(t, "(a:Dog)-[*]->(b)", g)
	finds(t, "(a)-[:none*]->(b)", g)
	finds(t, "(a)-[:KNOWS*]->(b)-[e:OWNS]->(c:Dog)", g, []int{3, 3, 2, 0, 1}, []int{7, 3, 2, 0, 1})
	finds(t, "(c:Dog)<-[e:OWNS]-(b)<-[:KNOWS*]-(a)", g, []int{2, 3, 3, 1, 0}, []int{2, 3, 7, 1, 0})
	// The second arrow begins where the first one ends.
	finds(t, "(a)-[*]->(b)-[*]->(c)", drawn(4, [2]int{1, 2}, [2]int{2, 3}, [2]int{3, 4}),
		[]int{1, 2, 3, 0, 0}, []int{1, 2, 4, 0, 0}, []int{1, 3, 4, 0, 0}, []int{2, 3, 4, 0, 0})
	// Once, however many ways lead there.
	finds(t, "(a)-[*]->(b)", drawn(2, [2]int{1, 2}, [2]int{1, 2}, [2]int{2, 2}), []int{1, 2, 0}, []int{2, 2, 0})
}

func TestDotsWithOneName(t *testing.T) {
	g := sample.Town()
	finds(t, "(a)-[]->(a)", g, []int{7, 7, 5})
	finds(t, "(a)<-[]-(a)", g, []int{7, 7, 5})
	finds(t, "(a)-[*]->(a)", g, []int{3, 3, 0}, []int{7, 7, 0})
	finds(t, "(a)-[]->(b)-[]->(a)", g,
		[]int{3, 7, 3, 11, 4}, []int{3, 7, 3, 12, 4}, []int{7, 3, 7, 4, 11}, []int{7, 3, 7, 4, 12}, []int{7, 7, 7, 5, 5})
	finds(t, "(a:Person)-[:KNOWS]->(b)<-[:OWNS]-(a)", g, []int{3, 7, 3, 11, 12})
	finds(t, "(a)-[]->(b)-[]->(b)-[]->(a)", g, []int{3, 7, 7, 3, 11, 5, 4}, []int{3, 7, 7, 3, 12, 5, 4}, []int{7, 7, 7, 7, 5, 5, 5})
	// All labels that dots with one name have must be the node's.
	finds(t, "(a:Dog)<-[]-(b)-[]->(a:Pet)", g, []int{2, 3, 2, 1, 1})
	finds(t, "(a:Dog)<-[]-(b)-[]->(a:Person)", g)
	finds(t, "(a)<-[]-(b)-[]->(a:Dog)", g, []int{2, 3, 2, 1, 1})
	// Dots without a name have none in common.
	finds(t, "()-[:OWNS]->()-[:KNOWS]->()", g, []int{3, 7, 3, 12, 4}, []int{3, 7, 7, 12, 5})
}

func TestWhere(t *testing.T) {
	g := sample.Town()
	finds(t, "(a) where true", g, []int{2}, []int{3}, []int{7}, []int{9})
	for _, s := range []string{"false", "null", "1", "'true'", "[true]", "a", "a.name", "a.none", "not null", "(null or false)", "(true and null)", "(1 and true)", "(true and 1)", "null = null", "a in 3"} {
		finds(t, "(a) where "+s, g)
	}
	finds(t, "(a) where a.age = 3", g, []int{2})
	finds(t, "(a) where not a.age = 3", g)
	finds(t, "(a) where a.age is null", g, []int{3}, []int{7}, []int{9})
	finds(t, "(a) where id(a) < 7", g, []int{2}, []int{3})
	finds(t, "(a) where a in [2, 9]", g, []int{2}, []int{9})
	finds(t, "(a)-[e]->(b) where e.since = 2020", g, []int{3, 2, 1})
	finds(t, "(a)-[e]->(b) where type(e) = 'KNOWS'", g, []int{3, 7, 11}, []int{7, 3, 4}, []int{7, 7, 5})
	finds(t, "(a)-[e]->(b) where a = b", g, []int{7, 7, 5})
	finds(t, "(a)-[e]->(b) where a < b and type(e) = 'KNOWS'", g, []int{3, 7, 11})
	finds(t, "(a)-[e]->(b) where a = 7 or b = 2", g, []int{3, 2, 1}, []int{7, 3, 4}, []int{7, 7, 5})
	finds(t, "(a)-[e]->(b)-[f]->(c) where e = f", g, []int{7, 7, 7, 5, 5})
	finds(t, "(a)-[e]->()-[f]->() where a + e = f", g, []int{7, 3, 7, 4, 11})
	finds(t, "(a)-[*]->()-[f]->() where a = 3 and f < 5 and true", g, []int{3, 3, 2, 0, 1}, []int{3, 7, 3, 0, 4})
	finds(t, "(a)-[*]->()-[f]->() where a = 3 and f < 5 and null", g)
	// Names that Where ties lie far from each other, and against their order.
	finds(t, "(c)-[]->()-[]->()-[]->(b) where b.age = c", g, []int{3, 7, 3, 2, 11, 4, 1}, []int{3, 7, 3, 2, 12, 4, 1})
	finds(t, "(c)-[]->()-[]->(b) where b.age = c", g)
	finds(t, "(c:Person)-[]->()-[]->(b) where b.age < c", g, []int{7, 3, 2, 4, 1})
	// One name stands twice in the pattern.
	finds(t, "(a)-[e]->(b)-[]->(a) where a < b and e < 12", g, []int{3, 7, 3, 11, 4})
}

// Numbers rise as numbers, through all of a way; the first that differs decides.
func TestWaysRise(t *testing.T) {
	g := drawn(12, [2]int{10, 2}, [2]int{9, 10}, [2]int{10, 9}, [2]int{2, 10}, [2]int{10, 2})
	finds(t, "(a)-[]->(b)", g, []int{2, 10, 16}, []int{9, 10, 14}, []int{10, 2, 13}, []int{10, 2, 17}, []int{10, 9, 15})
	finds(t, "(a)-[]->(b)-[]->(c) where c = 2 or c = 9 and b < c + 2", g,
		[]int{2, 10, 2, 16, 13}, []int{2, 10, 2, 16, 17}, []int{2, 10, 9, 16, 15}, []int{9, 10, 2, 14, 13}, []int{9, 10, 2, 14, 17}, []int{9, 10, 9, 14, 15})
	great := api.Graph{Nodes: []api.Node{{ID: 5}, {ID: 1<<40 - 1}}, Edges: []api.Edge{{ID: 1<<40 - 2, From: 1<<40 - 1, To: 5, Type: "K"}}, Next: 1 << 40}
	finds(t, "(a)<-[]-(b)", great, []int{5, 1<<40 - 1, 1<<40 - 2})
}

func TestWrongQuestions(t *testing.T) {
	right := func() api.Query { return asked(t, "(a)-[e]->(b) where a < b") }
	for _, c := range []struct {
		what string
		do   func(q *api.Query)
		want api.Errno
	}{
		{"nothing", func(q *api.Query) { *q = api.Query{} }, api.ErrMany},
		{"too many dots", func(q *api.Query) { q.Dots, q.Arrows = make([]api.Dot, 6), make([]api.Arrow, 5) }, api.ErrMany},
		{"two terms in where", func(q *api.Query) { q.Where = append(q.Where, q.Where[0]) }, api.ErrMany},
		{"no items", func(q *api.Query) { q.Items = nil }, api.ErrMany},
		{"an arrow too few", func(q *api.Query) { q.Arrows = nil }, api.ErrForm},
		{"an arrow too many", func(q *api.Query) { q.Arrows = append(q.Arrows, api.Arrow{}) }, api.ErrForm},
		{"a label that is none", func(q *api.Query) { q.Dots[1].Label = "a b" }, api.ErrForm},
		{"a name for many", func(q *api.Query) { q.Arrows[0].Many = true }, api.ErrForm},
		{"an arrow with a dot's name", func(q *api.Query) { q.Arrows[0].Name = "b" }, api.ErrTwice},
		{"where asks for nobody", func(q *api.Query) { q.Where[0].A[1].Name = "c" }, api.ErrWho},
		{"where asks a node's type", func(q *api.Query) { q.Where[0] = sample.Call("type", sample.Var("a")) }, api.ErrKind},
		{"where isn't a term", func(q *api.Query) { q.Where[0] = api.Term{} }, api.ErrForm},
		{"and of one", func(q *api.Query) { q.Where[0] = sample.Call("and", sample.Var("a")) }, api.ErrForm},
		{"an item that isn't a term", func(q *api.Query) { q.Items[0].T = api.Term{} }, api.ErrForm},
	} {
		q := right()
		c.do(&q)
		fails(t, c.what, q, sample.Town(), c.want)
		// The question's error is told ahead of the graph's.
		fails(t, c.what+", of a wrong graph", q, api.Graph{}, c.want)
	}
}

func TestWrongGraphs(t *testing.T) {
	for _, c := range []struct {
		what string
		do   func(g *api.Graph)
		want api.Errno
	}{
		{"no next", func(g *api.Graph) { *g = api.Graph{} }, api.ErrRange},
		{"next is an edge's", func(g *api.Graph) { g.Next = 12 }, api.ErrRange},
		{"node 0", func(g *api.Graph) { g.Nodes[0].ID = 0 }, api.ErrForm},
		{"an edge to nobody", func(g *api.Graph) { g.Edges[4].To = 1 }, api.ErrWho},
		{"too many nodes", func(g *api.Graph) { *g = api.Graph{Nodes: sample.Nodes(41), Next: 42} }, api.ErrMany},
		{"too many edges", func(g *api.Graph) { *g = api.Graph{Nodes: sample.Nodes(1), Edges: sample.Loops(61, 1), Next: 63} }, api.ErrMany},
		{"too many properties", func(g *api.Graph) { g.Nodes[3].Props = sample.Numbered(7) }, api.ErrMany},
	} {
		g := sample.Town()
		c.do(&g)
		for _, s := range []string{"(a)", "(a:none)", "(a)-[*]->(b)", "(a) where false"} {
			fails(t, c.what+", "+s, asked(t, s), g, c.want)
		}
	}
}

// star has 40 loops at node 1 and so many edges from it: two steps go in 40 * (40 + more) ways; then beside it two edges that make one more.
func star(more int, beside bool) api.Graph {
	var l [][2]int
	for range 40 {
		l = append(l, [2]int{1, 1})
	}
	for range more {
		l = append(l, [2]int{1, 2})
	}
	if beside {
		l = append(l, [2]int{3, 4}, [2]int{4, 5})
	}
	return drawn(5, l...)
}

func TestFull(t *testing.T) {
	two := "(a)-[e]->(b)-[f]->(c)"
	if l, e := All(asked(t, two), star(10, false)); len(l) != api.MaxRows || e != api.OK {
		t.Errorf("the most: %d, %d", len(l), e)
	}
	fails(t, "one more", asked(t, two), star(10, true), api.ErrFull)
	fails(t, "many more", asked(t, two), star(20, false), api.ErrFull)
	fails(t, "three steps", asked(t, two+"-[]->(d)"), star(10, false), api.ErrFull)
	// What Where leaves counts, not what it is asked of.
	for where, want := range map[string]int{
		"a = 1":               api.MaxRows,
		"a + b + c < 12":      api.MaxRows,
		"a = 3":               1,
		"a + b < c + 2":       api.MaxRows,
		"c = 2":               400,
		"e = f":               40,
		"a + b = 99":          0,
		"e + f + a + b+c = 0": 0,
	} {
		if l, e := All(asked(t, two+" where "+where), star(10, true)); len(l) != want || e != api.OK {
			t.Errorf("%s: %d, %d, want %d", where, len(l), e, want)
		}
	}
	// All pairs of nodes are fewer, all triples more.
	if l, e := All(asked(t, "()-[*]->()"), row(true)); len(l) != 1600 || e != api.OK {
		t.Errorf("pairs: %d, %d", len(l), e)
	}
	fails(t, "triples", asked(t, "()-[*]->()<-[*]-()"), row(true), api.ErrFull)
}

func TestSetsHaveRoom(t *testing.T) {
	s := set(1)<<(api.MaxNodes-1) | 1
	if l := slices.Collect(s.all); !slices.Equal(l, []int{0, api.MaxNodes - 1}) {
		t.Errorf("%v", l)
	}
}

// As many nodes and as many steps as there can be: all ways are far too many to be tried one by one.
func TestGreatest(t *testing.T) {
	steps := "(a)-[*]->(b)-[*]->(c)-[*]->(d)-[*]->(e)"
	fails(t, "a ring", asked(t, steps), row(true), api.ErrFull)
	fails(t, "a row", asked(t, steps), row(false), api.ErrFull)
	for where, want := range map[string]int{
		"false":                      0,
		"null and a = b":             0,
		"e.x = 1":                    0,
		"a.x = e.x":                  0,
		"a + c + e = 200":            0,
		"a = 1 and b = 1 and e = 40": 1600,
		"a + e = 80 and b + d = 2":   40,
		"a = 7 and b = a and c = b and d = c and e = d": 1,
	} {
		if l, e := All(asked(t, steps+" where "+where), row(true)); len(l) != want || e != api.OK {
			t.Errorf("%s: %d, %d, want %d", where, len(l), e, want)
		}
	}
	finds(t, steps+" where e < 6", row(false), []int{1, 2, 3, 4, 5, 0, 0, 0, 0})
	finds(t, strings.ReplaceAll(steps, "(e)", "(e:None)"), row(true))
	finds(t, strings.ReplaceAll(steps, "(e)", "(a)"), row(false))
	if l, e := All(asked(t, strings.ReplaceAll(steps, "*", "")), row(false)); len(l) != 36 || e != api.OK {
		t.Errorf("four edges of a row: %d, %d", len(l), e)
	}
}
