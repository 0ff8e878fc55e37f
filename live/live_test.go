package live

import (
	"reflect"
	"slices"
	"testing"

	"espalier/api"
	"espalier/query"
	"espalier/sample"
)

func TestStart(t *testing.T) {
	for _, c := range []struct{ text, want string }{
		{"(a)", "2 3 7 9"},
		{"(a:Person)", "3 7"},
		{"(a:Cat)", ""},
		{"(a) where a.age = 3", "2"},
		{"(a:Person)-[e:KNOWS]->(b)", "3,7,11 7,3,4 7,7,5"},
		{"(a)<-[e:OWNS]-(b)", "2,3,1 7,3,12"},
		{"(a)-[*]->(a)", "3,3,0 7,7,0"},
		{"(a)-[:KNOWS*]->(b:Pet)", ""},
		{"()-[]->()-[*]->(b:Pet)", "3,7,2,11,0 3,7,2,12,0 7,3,2,4,0 7,7,2,5,0"},
	} {
		q := questionOf(t, c.text)
		h, e := Start(q, sample.Town())
		if e != api.OK || ways(h.Found) != c.want || !reflect.DeepEqual(h.Q, q) {
			t.Errorf("%s: %v, %d, want %s", c.text, h, e, c.want)
		}
		if e := Check(h, sample.Town()); e != api.OK {
			t.Errorf("%s: it isn't right at the start: %d", c.text, e)
		}
	}
}

// wrong are questions and graphs of which match.All has an error; the question's is told ahead.
func wrong(t *testing.T) []struct {
	what string
	q    api.Query
	g    api.Graph
	want api.Errno
} {
	t.Helper()
	far := sample.Town()
	far.Edges[4].To = 1
	two := questionOf(t, "()-[]->()-[]->()")
	bad := questionOf(t, "(a) return a as n")
	bad.Items[0].T.Name = "b"
	return []struct {
		what string
		q    api.Query
		g    api.Graph
		want api.Errno
	}{
		{"no question", api.Query{}, sample.Town(), api.ErrMany},
		{"no question, no graph", api.Query{}, api.Graph{}, api.ErrMany},
		{"an item of nobody", bad, sample.Town(), api.ErrWho},
		{"an item of nobody, no graph", bad, api.Graph{}, api.ErrWho},
		{"no graph", two, api.Graph{}, api.ErrRange},
		{"an edge to nobody", two, far, api.ErrWho},
		{"too many nodes", two, api.Graph{Nodes: sample.Nodes(api.MaxNodes + 1), Next: api.MaxNodes + 2}, api.ErrMany},
		{"too many ways", two, loops(45, 0), api.ErrFull},
	}
}

func TestWrongQuestionsAndGraphs(t *testing.T) {
	for _, c := range wrong(t) {
		if h, e := Start(c.q, c.g); e != c.want || !reflect.ValueOf(h).IsZero() {
			t.Errorf("Start, %s: %v, %d, want %d", c.what, h, e, c.want)
		}
		// Whatever is found is told behind that.
		for _, found := range [][][]int{nil, {{1}}} {
			h := api.Hold{Q: c.q, Found: found}
			if e := Check(h, c.g); e != c.want {
				t.Errorf("Check, %s: %d, want %d", c.what, e, c.want)
			}
			if b, e := Rows(h, c.g); e != c.want || b != nil {
				t.Errorf("Rows, %s: %v, %d, want %d", c.what, b, e, c.want)
			}
			for _, b := range []api.Graph{c.g, sample.Town(), {}, {Next: 1}} {
				if out, d, e := Step(h, c.g, b); e != c.want || d != nil || !reflect.ValueOf(out).IsZero() {
					t.Errorf("Step, %s: %v, %v, %d, want %d", c.what, out, d, e, c.want)
				}
			}
		}
	}
}

func TestCheckFindsAnotherView(t *testing.T) {
	g := sample.Town()
	right := viewOf(t, "(a:Person)-[e:KNOWS]->(b)", g)
	for _, c := range []struct {
		what string
		do   func(l [][]int) [][]int
	}{
		{"nothing", func(l [][]int) [][]int { return nil }},
		{"one fewer", func(l [][]int) [][]int { return l[:2] }},
		{"the first is gone", func(l [][]int) [][]int { return l[1:] }},
		{"one more", func(l [][]int) [][]int { return append(l, []int{9, 9, 12}) }},
		{"an empty one more", func(l [][]int) [][]int { return append(l, nil) }},
		{"one twice", func(l [][]int) [][]int { return append(l, l[2]) }},
		{"one twice, another gone", func(l [][]int) [][]int { return [][]int{l[0], l[1], l[1]} }},
		{"in another order", func(l [][]int) [][]int { return [][]int{l[1], l[0], l[2]} }},
		{"another edge", func(l [][]int) [][]int { l[0][2] = 12; return l }},
		{"another node", func(l [][]int) [][]int { l[2][1] = 3; return l }},
		{"a way that is too short", func(l [][]int) [][]int { l[1] = l[1][:2]; return l }},
		{"a way that is too long", func(l [][]int) [][]int { l[1] = append(l[1], 0); return l }},
		{"an empty way", func(l [][]int) [][]int { l[0] = nil; return l }},
		{"numbers of nobody", func(l [][]int) [][]int { l[0][0] = -1 << 63; return l }},
	} {
		h := viewOf(t, "(a:Person)-[e:KNOWS]->(b)", g)
		h.Found = c.do(h.Found)
		if e := Check(h, g); e != api.ErrForm {
			t.Errorf("Check, %s: %d", c.what, e)
		}
		if b, e := Rows(h, g); e != api.ErrForm || b != nil {
			t.Errorf("Rows, %s: %v, %d", c.what, b, e)
		}
		// The graph behind that is told of later, be it wrong or right.
		for _, b := range []api.Graph{g, {}} {
			if out, d, e := Step(h, g, b); e != api.ErrForm || d != nil || !reflect.ValueOf(out).IsZero() {
				t.Errorf("Step, %s: %v, %v, %d", c.what, out, d, e)
			}
		}
	}
	if e := Check(right, changed(t, g, api.Op{Kind: api.DropEdge, ID: 5})); e != api.ErrForm {
		t.Errorf("of a graph with an edge fewer: %d", e)
	}
	if e := Check(right, changed(t, g, api.Op{Kind: api.Tag, ID: 9, Name: "Person"})); e != api.OK {
		t.Errorf("of a graph in which the same is found: %d", e)
	}
	right.Q = questionOf(t, "(a:Person)-[e]->(b)")
	if e := Check(right, g); e != api.ErrForm {
		t.Errorf("of another question: %d", e)
	}
}

func TestEmptyViews(t *testing.T) {
	g := sample.Town()
	for _, found := range [][][]int{nil, {}} {
		h := api.Hold{Q: questionOf(t, "(a:Cat) return count(a) as n"), Found: found}
		if e := Check(h, g); e != api.OK {
			t.Errorf("%v: %d", found, e)
		}
		if b, e := Rows(h, g); e != api.OK || rows(b) != "1*[0]" {
			t.Errorf("%v: %s, %d", found, rows(b), e)
		}
	}
}

func TestRows(t *testing.T) {
	for _, c := range []struct{ text, want string }{
		{"(a:Person) return a as a", "1*[3] 1*[7]"},
		{"(a) return a.age as n", "3*[null] 1*[3]"},
		{"(a) return distinct a.age as n", "1*[null] 1*[3]"},
		{"(a)-[e]->(b) return type(e) as t, count(b) as n, max(b) as m", "1*['KNOWS',3,7] 1*['OWNS',2,7]"},
		{"(a)-[*]->(a) return sum(a) as s", "1*[10]"},
		{"(a:Cat) return a as a", ""},
	} {
		if b, e := Rows(viewOf(t, c.text, sample.Town()), sample.Town()); e != api.OK || rows(b) != c.want {
			t.Errorf("%s: %s, %d, want %s", c.text, rows(b), e, c.want)
		}
	}
}

// What isn't in a view is told of the graph as it is now.
func TestRowsOfAGraphWithTheSameWays(t *testing.T) {
	g := sample.Town()
	h := viewOf(t, "(a:Pet) return a.age as n", g)
	b, e := Rows(h, changed(t, g, api.Op{Kind: api.Set, ID: 2, Name: "age", Value: sample.Int(4)}))
	if e != api.OK || rows(b) != "1*[4]" {
		t.Errorf("%s, %d", rows(b), e)
	}
}

func TestStep(t *testing.T) {
	set := func(id int, name string, v api.Value) api.Op {
		return api.Op{Kind: api.Set, ID: id, Name: name, Value: v}
	}
	tag := api.Op{Kind: api.Tag, ID: 9, Name: "Person"}
	untag := api.Op{Kind: api.Untag, ID: 7, Name: "Person"}
	join := api.Op{Kind: api.AddEdge, From: 2, To: 9, Name: "KNOWS"}
	part := api.Op{Kind: api.DropEdge, ID: 11}
	for _, c := range []struct {
		text        string
		ops         []api.Op
		found, want string
	}{
		{"(a:Person) return a as a", nil, "3 7", ""},
		{"(a:Person) return a as a", []api.Op{tag}, "3 7 9", "1*[9]"},
		{"(a:Person) return a as a", []api.Op{untag}, "3", "-1*[7]"},
		{"(a:Person) return a as a", []api.Op{tag, untag}, "3 9", "-1*[7] 1*[9]"},
		{"(a:Person) return 1 as n", []api.Op{tag, untag}, "3 9", ""},
		{"(a:Person) return 1 as n", []api.Op{tag, {Kind: api.AddNode, Labels: []string{"Person"}}}, "3 7 9 13", "2*[1]"},
		{"(a:Person) return distinct 1 as n", []api.Op{tag}, "3 7 9", ""},
		{"(a:Person) return count(a) as n", []api.Op{tag}, "3 7 9", "-1*[2] 1*[3]"},
		{"(a:Person) return sum(a) as n", []api.Op{untag}, "3", "1*[3] -1*[10]"},
		{"(a:Person) return min(a) as n", []api.Op{tag}, "3 7 9", ""},
		{"(a:Cat) return count(a) as n", []api.Op{{Kind: api.AddNode, Labels: []string{"Cat"}}}, "13", "-1*[0] 1*[1]"},
		{"(a:Cat) return a.x as x, count(a) as n", []api.Op{{Kind: api.AddNode, Labels: []string{"Cat"}}}, "13", "1*[null,1]"},
		{"(a:Pet) return a.age as n", []api.Op{set(2, "age", sample.Int(4))}, "2", "-1*[3] 1*[4]"},
		{"(a:Pet) return a.age as n", []api.Op{set(2, "age", api.Value{})}, "2", "1*[null] -1*[3]"},
		{"(a:Pet) return a.age as n", []api.Op{set(2, "name", sample.Int(4))}, "2", ""},
		{"(a) where a.age = 3 return a as a", []api.Op{set(2, "age", sample.Int(4)), set(9, "age", sample.Int(3))}, "9", "-1*[2] 1*[9]"},
		{"(a)-[:KNOWS]->(b) return a as a, b as b", []api.Op{join, part}, "2,9,13 7,3,4 7,7,5", "1*[2,9] -1*[3,7]"},
		{"(a)-[e]->(b) return e.since as s", []api.Op{set(1, "since", api.Value{})}, "3,2,1 3,7,11 3,7,12 7,3,4 7,7,5", "1*[null] -1*[2020]"},
		{"(a)-[*]->(b:Pet) return a as a", []api.Op{{Kind: api.DropEdge, ID: 4}}, "3,2,0", "-1*[7]"},
		{"(a:Pet)<-[*]-(b) return count(b) as n", []api.Op{{Kind: api.DropEdge, ID: 1}}, "", "1*[0] -1*[2]"},
	} {
		g := sample.Town()
		h := viewOf(t, c.text, g)
		out, d, e := Step(h, g, changed(t, g, c.ops...))
		if e != api.OK || ways(out.Found) != c.found || rows(d) != c.want || !reflect.DeepEqual(out.Q, h.Q) {
			t.Errorf("%s, %v: %v, %s, %d, want %s, %s", c.text, c.ops, out, rows(d), e, c.found, c.want)
		}
		if e := Check(out, changed(t, g, c.ops...)); e != api.OK {
			t.Errorf("%s, %v: it isn't right behind that: %d", c.text, c.ops, e)
		}
	}
}

// Two graphs need not come of each other.
func TestStepToAnyGraph(t *testing.T) {
	for _, b := range []api.Graph{{Next: 1}, loops(7, 0)} {
		h := viewOf(t, "(a)-[e]->(b) return count(e) as n", sample.Town())
		out, d, e := Step(h, sample.Town(), b)
		back, less, f := Step(out, b, sample.Town())
		if e != api.OK || f != api.OK || len(out.Found) != len(b.Edges) || !reflect.DeepEqual(back, h) {
			t.Errorf("%v, %d, %v, %d", out, e, back, f)
		}
		if len(d) != 2 || len(less) != 2 || d[0].N != -less[0].N || d[1].N != -less[1].N {
			t.Errorf("%s, then %s", rows(d), rows(less))
		}
	}
}

func TestStepRefusesTheSecondGraph(t *testing.T) {
	g, far := sample.Town(), sample.Town()
	far.Edges[4].To = 1
	h := viewOf(t, "()-[]->()-[]->()", g)
	for _, c := range []struct {
		what string
		b    api.Graph
		want api.Errno
	}{
		{"no graph", api.Graph{}, api.ErrRange},
		{"an edge to nobody", far, api.ErrWho},
		{"too many nodes", api.Graph{Nodes: sample.Nodes(api.MaxNodes + 1), Next: api.MaxNodes + 2}, api.ErrMany},
		{"too many ways", loops(45, 0), api.ErrFull},
		{"too many edges", loops(api.MaxEdges+1, 0), api.ErrMany},
	} {
		if out, d, e := Step(h, g, c.b); e != c.want || d != nil || !reflect.ValueOf(out).IsZero() {
			t.Errorf("%s: %v, %v, %d, want %d", c.what, out, d, e, c.want)
		}
	}
	// The first one's is told ahead of it.
	for _, b := range []api.Graph{{}, far, loops(45, 0)} {
		if _, _, e := Step(h, far, b); e != api.ErrWho {
			t.Errorf("both are wrong: %d", e)
		}
		if _, _, e := Step(h, loops(44, 0), b); e != api.ErrForm {
			t.Errorf("the view is another's: %d", e)
		}
	}
}

// Two bags, each of which has no more rows than it may have, may differ in more.
func TestStepTellsAtMostSoMany(t *testing.T) {
	const two = "()-[e]->()-[f]->() return e.x as x, f.x as y"
	// 31 edges make 961 rows, 32 make 1024, 33 make 1089.
	for _, c := range []struct {
		what string
		text string
		a, b api.Graph
		rows int
		want api.Errno
	}{
		{"nothing in common", two, loops(31, 0), loops(32, 1000), 1985, api.OK},
		{"one too many of them", two, loops(31, 0), loops(33, 1000), 0, api.ErrFull},
		{"some in common", two, loops(31, 0), loops(33, 0), 1089 - 961, api.OK},
		{"all in common", two, loops(44, 0), loops(44, 0), 0, api.OK},
		{"the most, from nothing", two, loops(0, 0), loops(44, 0), 1936, api.OK},
		{"the most, to nothing", two, loops(44, 0), loops(0, 0), 1936, api.OK},
		{"of many one", "()-[e]->()-[f]->() return sum(e.x) as x", loops(44, 0), loops(43, 1000), 2, api.OK},
		{"of many one each", "()-[e]->()-[f]->() return e.x as x, count(f) as n", loops(44, 0), loops(43, 1000), 87, api.OK},
		{"of many, in vain", "()-[e]->()-[f]->() return sum(e.x) as x", loops(44, 0), loops(45, 1000), 0, api.ErrFull},
	} {
		out, d, e := Step(viewOf(t, c.text, c.a), c.a, c.b)
		if e != c.want || len(d) != c.rows || e != api.OK && (d != nil || !reflect.ValueOf(out).IsZero()) {
			t.Errorf("%s: %d rows, %d, want %d, %d", c.what, len(d), e, c.rows, c.want)
		}
	}
}

// Just as many rows as there may be, and one more.
func TestStepTellsJustSoMany(t *testing.T) {
	const two = "()-[e]->()-[f]->() return e as e, f as f"
	none := api.Graph{Next: 1}
	one := api.Graph{Nodes: sample.Nodes(1), Edges: sample.Loops(1, 1), Next: 3}
	// 40 loops, and 10 edges on: 40 times 50 ways.
	most := api.Graph{Nodes: sample.Nodes(2), Edges: sample.Loops(50, 2), Next: 53}
	for i := range 10 {
		most.Edges[40+i].To = 2
	}
	for _, x := range [][2]api.Graph{{none, most}, {most, none}} {
		if _, d, e := Step(viewOf(t, two, x[0]), x[0], x[1]); e != api.OK || len(d) != api.MaxRows {
			t.Errorf("%d rows, %d", len(d), e)
		}
	}
	for _, x := range [][2]api.Graph{{one, most}, {most, one}} {
		if out, d, e := Step(viewOf(t, two, x[0]), x[0], x[1]); e != api.ErrFull || d != nil || !reflect.ValueOf(out).IsZero() {
			t.Errorf("one more: %d rows, %d", len(d), e)
		}
	}
}

func TestNames(t *testing.T) {
	for _, c := range []struct {
		text string
		want []string
		all  bool
	}{
		{"(a)", nil, true},
		{"(a:P)", []string{"P"}, false},
		{"(a:P) return a.P as n", []string{"P"}, false},
		{"(a:P) return a as a, a.q as b, a.Q as c", []string{"P", "Q", "q"}, false},
		{"(:P)", []string{"P"}, false},
		{"(:P)-[:K]->(:Q)", []string{"K", "P", "Q"}, false},
		{"(:P)-[:K]->()", []string{"K", "P"}, true},
		{"(:P)-[]->(:P)", []string{"P"}, true},
		{"()-[:K]->(:P)", []string{"K", "P"}, true},
		{"(:P)-[:K*]->(:P)", []string{"K", "P"}, false},
		{"(:P)<-[*]-(:P)", []string{"P"}, true},
		{"(:P)-[:K]->(:P)<-[]-(:Q)", []string{"K", "P", "Q"}, true},
		{"(a:P)-[:K]->(a)", []string{"K", "P"}, true},
		{"(z:Z)-[y:Y]->(x:X)<-[:W]-(v:V)", []string{"V", "W", "X", "Y", "Z"}, false},
		{"(a:P) where a.age < 30 return a.name as n", []string{"P", "age", "name"}, false},
		{"(a:P) where a.age < 30 and (not a.age is null or a.b in [a.c, a.d]) return 1 as n", []string{"P", "age", "b", "c", "d"}, false},
		{"(a:P)-[e:K]->(b:P) return coalesce(e.x, a.x, [b.y]) as x, max(e.z) as m", []string{"K", "P", "x", "y", "z"}, false},
		{"(a) where a.x = 'Text' return id(a) as Name", []string{"x"}, true},
		{"(a:P)-[e:K]->(b:P) where type(e) = 'L' return count(1) as n", []string{"K", "P"}, false},
	} {
		l, all, e := Names(questionOf(t, c.text))
		if e != api.OK || !slices.Equal(l, c.want) || all != c.all {
			t.Errorf("%s: %v, %v, %d, want %v, %v", c.text, l, all, e, c.want, c.all)
		}
	}
}

func TestNamesRefuses(t *testing.T) {
	bad := questionOf(t, "(a:P) return a.x as n")
	bad.Items[0].T.Name = ""
	for _, c := range []struct {
		what string
		q    api.Query
		want api.Errno
	}{
		{"no question", api.Query{}, api.ErrMany},
		{"a field without a name", bad, api.ErrForm},
		{"an arrow too many", api.Query{Dots: []api.Dot{{Label: "P"}}, Arrows: []api.Arrow{{}}, Items: bad.Items}, api.ErrForm},
	} {
		if l, all, e := Names(c.q); l != nil || all || e != c.want || e != query.Check(c.q) {
			t.Errorf("%s: %v, %v, %d, want %d", c.what, l, all, e, c.want)
		}
	}
}
