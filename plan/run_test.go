package plan

import (
	"strings"
	"testing"

	"espalier/api"
	"espalier/sample"
)

// runs holds what a plan tells of a question against the text of a bag.
func runs(t *testing.T, what string, q api.Query, p api.Plan, g api.Graph, want string) {
	t.Helper()
	if got, e := Run(q, p, g); e != api.OK || rows(got) != want {
		t.Errorf("%s: %s, %d, want %s", what, rows(got), e, want)
	}
}

// fails tells that a plan has an error, and nothing beside it.
func fails(t *testing.T, what string, q api.Query, p api.Plan, g api.Graph, want api.Errno) {
	t.Helper()
	if got, e := Run(q, p, g); got != nil || e != want {
		t.Errorf("%s: %s, %d, want %d", what, rows(got), e, want)
	}
}

// both plans of a question are to tell that.
func both(t *testing.T, text string, g api.Graph, want string) {
	t.Helper()
	q := questionOf(t, text)
	for _, early := range []bool{false, true} {
		p, e := Of(q, early)
		if e != api.OK {
			t.Fatalf("%s: %d", text, e)
		}
		runs(t, text, q, p, g, want)
	}
}

func TestRunOfBothPlans(t *testing.T) {
	g := sample.Town()
	for _, c := range []struct{ text, want string }{
		{"(a) return a as n", "1*[2] 1*[3] 1*[7] 1*[9]"},
		{"(a:Person) return a as n", "1*[3] 1*[7]"},
		{"(a:Cat) return a as n", ""},
		{"() return 1 as n", "4*[1]"},
		{"(a) where a.age = 3 return a.name as n", "1*['Rex']"},
		{"(a)-[e]->(b) return a as a, b as b, e as e", "1*[3,2,1] 1*[3,7,11] 1*[3,7,12] 1*[7,3,4] 1*[7,7,5]"},
		{"(a)<-[e]-(b) return a as a, b as b, e as e", "1*[2,3,1] 1*[3,7,4] 1*[7,3,11] 1*[7,3,12] 1*[7,7,5]"},
		{"(a)-[:OWNS]->(b) return a as a, b as b", "1*[3,2] 1*[3,7]"},
		{"(a)-[:OWNS]->(b:Person) return a as a, b as b", "1*[3,7]"},
		{"(a)-[:OWNS]->(b)-[e:KNOWS]->(c) return a as a, b as b, c as c, e as e", "1*[3,7,3,4] 1*[3,7,7,5]"},
		{"(a)-[*]->(b) return a as a, b as b", "1*[3,2] 1*[3,3] 1*[3,7] 1*[7,2] 1*[7,3] 1*[7,7]"},
		{"(a)<-[:OWNS*]-(b) return a as a, b as b", "1*[2,3] 1*[7,3]"},
		{"(a)-[*]->(b)-[e]->() return e as e", "2*[1] 2*[4] 2*[5] 2*[11] 2*[12]"},
		{"(a)-[]->(a) return a as a", "1*[7]"},
		{"(a)-[*]->(a) return a as a", "1*[3] 1*[7]"},
		{"(a)-[]->(b)-[]->(a) return a < b as up", "3*[false] 2*[true]"},
		{"(a)-[]->(b)-[]->(b)-[]->(a) return a as a, b as b", "2*[3,7] 1*[7,7]"},
		{"(a:Dog)<-[]-(b)-[]->(a:Pet) return b as b", "1*[3]"},
		{"(a:Dog)<-[]-(b)-[]->(a:Person) return b as b", ""},
		{"()-[:OWNS]->()-[:KNOWS]->() return 1 as n", "2*[1]"},
		{"(a)-[e]->(b) where type(e) = 'KNOWS' and a < b return e as e", "1*[11]"},
		{"(a)-[e]->(b)-[f]->(c) where e = f return e as e", "1*[5]"},
		{"(a)-[e]->()-[f]->() where a + e = f return e as e, f as f", "1*[4,11]"},
		{"(c)-[]->()-[]->()-[]->(b) where b.age = c return b as b, c as c", "2*[2,3]"},
		{"(a)-[e]->(b) where false return e as e", ""},
		{"(a)-[e]->(b) where null and a = b return e as e", ""},
		{"(a)-[e]->(b) where 1 return e as e", ""},
		{"(a)-[e]->(b) where a and b return e as e", ""},
		{"(a)-[e]->(b) return distinct type(e) as t", "1*['KNOWS'] 1*['OWNS']"},
		{"(a)-[e]->(b) return type(e) as t, count(b) as n, max(a) as m", "1*['KNOWS',3,7] 1*['OWNS',2,3]"},
		{"(a)-[e]->(b) where a = 2 return count(1) as n, sum(a) as s, min(b) as m", "1*[0,0,null]"},
		{"(a)-[e]->(b) where a = 2 return a as a, count(1) as n", ""},
	} {
		both(t, c.text, g, c.want)
	}
	both(t, "(a)-[]->(b) where a.x = 1 return a as a", api.Graph{Next: 1}, "")
	both(t, "(a)-[*]->(b) return count(a) as a", api.Graph{Next: 1}, "1*[0]")
}

// What a plan asks is what counts, not what the question has in Where.
func TestRunAsksWhatThePlanAsks(t *testing.T) {
	g := sample.Town()
	q := questionOf(t, "(a)-[e]->(b) where a = 3 return a as a, b as b")
	runs(t, "nothing", q, bare(2), g, "1*[3,2] 2*[3,7] 1*[7,3] 1*[7,7]")
	runs(t, "something else", q, siftedBy(termOf(t, "a = b"), bare(2)), g, "1*[7,7]")
	runs(t, "early", q, hopped(0, siftedBy(termOf(t, "a = 7"), scanned())), g, "1*[7,3] 1*[7,7]")
	runs(t, "early and late", q, siftedBy(termOf(t, "b = 3"), hopped(0, siftedBy(termOf(t, "a = 7"), scanned()))), g, "1*[7,3]")
	runs(t, "one after the other", q, siftedBy(termOf(t, "a = 7"), siftedBy(termOf(t, "b = 3"), bare(2))), g, "1*[7,3]")
	runs(t, "the same again", q, siftedBy(termOf(t, "a = 7"), hopped(0, siftedBy(termOf(t, "a = 7"), scanned()))), g, "1*[7,3] 1*[7,7]")
	runs(t, "what can't be", q, siftedBy(termOf(t, "a = 3"), hopped(0, siftedBy(termOf(t, "a = 7"), scanned()))), g, "")
	runs(t, "what is never true", q, siftedBy(termOf(t, "a.none = 1"), bare(2)), g, "")
	runs(t, "what is no Bool", q, siftedBy(termOf(t, "a"), bare(2)), g, "")
	runs(t, "an arrow's", q, siftedBy(sample.Call("=", sample.Var("e"), sample.Const(sample.Int(12))), bare(2)), g, "1*[3,7]")
	runs(t, "as often as can be", q, often(mostAround-1, bare(2)), g, "1*[3,2] 2*[3,7] 1*[7,3] 1*[7,7]")
	part := halved(0, sample.Const(api.Value{Kind: api.Bool, N: 1}))
	p := bare(2)
	for range mostAround - 1 {
		p = siftedBy(part, p)
	}
	runs(t, "as much as can be", q, p, g, "1*[3,2] 2*[3,7] 1*[7,3] 1*[7,7]")
}

func TestRunRefuses(t *testing.T) {
	q := questionOf(t, longest+" where a.x = 1")
	town, bad := sample.Town(), sample.Town()
	bad.Edges[4].To = 1
	for n := 1; n < 5; n++ {
		fails(t, "not all dots", q, bare(n), town, api.ErrForm)
		fails(t, "not all dots, asked", q, often(3, bare(n)), town, api.ErrForm)
		fails(t, "not all dots, of a wrong graph", q, bare(n), bad, api.ErrForm)
	}
	fails(t, "no such arrow", q, hopped(4, bare(5)), town, api.ErrForm)
	fails(t, "an edge to nobody", q, bare(5), bad, api.ErrWho)
	fails(t, "no next", q, bare(5), api.Graph{}, api.ErrRange)
	fails(t, "too many nodes", q, bare(5), api.Graph{Nodes: sample.Nodes(41), Next: 42}, api.ErrMany)
	full := api.Graph{Nodes: sample.Nodes(1), Edges: sample.Loops(60, 1), Next: 61}
	fails(t, "full, but no right next", questionOf(t, "()-[]->()-[]->()"), bare(3), full, api.ErrRange)
}

// Ways are counted, not rows, and those that are left at last, not those on the way.
func TestFull(t *testing.T) {
	two := "(a)-[e]->(b)-[f]->(c) "
	for _, items := range []string{"1 as n", "distinct 1 as n", "count(1) as n", "e as e, count(f) as n", "e as e, f as f"} {
		q := questionOf(t, two+"return "+items)
		fails(t, items, q, bare(3), loops(45), api.ErrFull)
		fails(t, items+", asked", q, often(5, bare(3)), loops(45), api.ErrFull)
	}
	both(t, two+"return count(1) as n", loops(44), "1*[1936]")
	// 40 loops, and 10 edges on: 40 times 50 ways are as many as may be.
	g := api.Graph{Nodes: sample.Nodes(2), Edges: sample.Loops(50, 2), Next: 53}
	for i := range 10 {
		g.Edges[40+i].To = 2
	}
	both(t, two+"return count(1) as n", g, "1*[2000]")
	if got, e := Run(questionOf(t, two+"return e as e, f as f"), bare(3), g); e != api.OK || len(got) != api.MaxRows {
		t.Errorf("the most rows: %d, %d", len(got), e)
	}
	g.Edges = append(g.Edges, api.Edge{ID: 53, From: 2, To: 2, Type: "T"})
	g.Next = 54
	fails(t, "more", questionOf(t, two), bare(3), g, api.ErrFull)
	for where, want := range map[string]string{
		"e = f":                 "1*[60]",
		"e + f + a + b + c = 0": "1*[0]",
		"f < 7 and e < 302":     "1*[300]",
		"e < 20 and f < e":      "1*[153]",
	} {
		both(t, two+"where "+where+" return count(1) as n", loops(60), want)
	}
	q := questionOf(t, two+"return count(1) as n")
	runs(t, "asked at last", q, siftedBy(sample.Call("=", sample.Var("e"), sample.Var("f")), bare(3)), loops(60), "1*[60]")
	fails(t, "asked at first", q, hopped(1, siftedBy(sample.Call("<", sample.Var("e"), sample.Const(sample.Int(50))), bare(2))), loops(60), api.ErrFull)
}

// As many nodes and as many steps as there can be: all ways are far too many to be tried one by one.
func TestGreatest(t *testing.T) {
	steps := "(a)-[*]->(b)-[*]->(c)-[*]->(d)-[*]->(e)"
	tell := " return count(1) as n"
	fails(t, "a ring", questionOf(t, steps), bare(5), ring(), api.ErrFull)
	for where, want := range map[string]string{
		"false":                      "1*[0]",
		"null and a = b":             "1*[0]",
		"e.x = 1":                    "1*[0]",
		"a.x = e.x":                  "1*[0]",
		"a + c + e = 200":            "1*[0]",
		"a = 1 and b = 1 and e = 40": "1*[1600]",
		"a + e = 80 and b + d = 2":   "1*[40]",
		"a = 7 and b = a and c = b and d = c and e = d":           "1*[1]",
		"a.x is null and b.x is null and d.x is null and e.x = 1": "1*[0]",
	} {
		both(t, steps+" where "+where+tell, ring(), want)
	}
	both(t, strings.ReplaceAll(steps, "(e)", "(e:None)")+tell, ring(), "1*[0]")
	both(t, strings.ReplaceAll(steps, "*", "")+tell, ring(), "1*[40]")
	both(t, strings.ReplaceAll(strings.ReplaceAll(steps, "(e)", "(a)"), "*", "")+tell, ring(), "1*[0]")
	four := "(a)-[]->(b)-[]->(c)-[]->(d)-[k]->(e)"
	fails(t, "loops", questionOf(t, four), bare(5), loops(60), api.ErrFull)
	both(t, four+" where k.x = 1"+tell, loops(60), "1*[0]")
	both(t, four+" where a + b + c + d + e = 4"+tell, loops(60), "1*[0]")
}

// A dead end for one node of a dot that is asked for later is none for another.
func TestWhatIsInVainOnceNeedNotBeSoAgain(t *testing.T) {
	g := api.Graph{Nodes: sample.Nodes(6), Next: 20}
	for i, x := range [][2]int{{1, 3}, {2, 3}, {3, 4}, {4, 1}, {4, 2}, {5, 3}, {3, 6}} {
		g.Edges = append(g.Edges, api.Edge{ID: 10 + i, From: x[0], To: x[1], Type: "K"})
	}
	for _, c := range []struct{ text, want string }{
		{"(a)-[]->(b)-[]->(c)-[]->(d) where d < a return a as a, b as b, c as c, d as d", "1*[2,3,4,1] 1*[5,3,4,1] 1*[5,3,4,2]"},
		{"(a)-[]->(b)-[]->(c)-[]->(a) return a as a, b as b", "1*[1,3] 1*[2,3] 2*[3,4] 1*[4,1] 1*[4,2]"},
		{"(a)-[]->()-[]->()-[]->(b) where a = b return a as a", "1*[1] 1*[2] 2*[3] 2*[4]"},
		{"()-[x]->()-[]->()-[y]->(d) where x + 3 = y return x as x, y as y", "1*[10,13] 1*[11,14] 1*[13,16]"},
		{"()-[x]->()-[]->()-[y]->(d) where x = 15 and y = 14 return x as x, y as y", "1*[15,14]"},
	} {
		both(t, c.text, g, c.want)
	}
}
