package ask

import (
	"slices"
	"strings"
	"testing"

	"espalier/api"
	"espalier/sample"
)

func TestRows(t *testing.T) {
	g := sample.Town()
	for _, c := range []struct{ text, want string }{
		{"match (a) return a as n", "1*[2] 1*[3] 1*[7] 1*[9]"},
		{"match (a) return 1 as n", "4*[1]"},
		{"match (a) return null as n", "4*[null]"},
		{"match (a) return a.age as n", "3*[null] 1*[3]"},
		{"match (a) return a.age as n, a.name as m, id(a) as i", "1*[null,null,3] 1*[null,null,7] 1*[null,null,9] 1*[3,'Rex',2]"},
		{"match (a) return id(a) as i, a.age as n", "1*[2,3] 1*[3,null] 1*[7,null] 1*[9,null]"},
		{"match (a:Person) return a.likes as l, a.likes as m", "1*[null,null] 1*[[1,['a',null]],[1,['a',null]]]"},
		{"match (a:Person) return [a.likes] as l", "1*[[null]] 1*[[[1,['a',null]]]]"},
		{"match (a)-[e]->(b) return type(e) as t", "3*['KNOWS'] 2*['OWNS']"},
		{"match (a)-[e]->(b) return a as a, b as b", "1*[3,2] 2*[3,7] 1*[7,3] 1*[7,7]"},
		{"match (a)<-[e]-(b) return a as a, b as b", "1*[2,3] 1*[3,7] 2*[7,3] 1*[7,7]"},
		{"match (a)-[e:KNOWS]->()-[f:OWNS]->(b) where f.since = 2020 return e as e, f as f, f.since - e as d", "1*[4,1,2016]"},
		{"match (a)-[*]->(a) return a as a", "1*[3] 1*[7]"},
		{"match (a)-[*]->(b)-[e]->() return e as e", "2*[1] 2*[4] 2*[5] 2*[11] 2*[12]"},
		{"match (a)-[]->(b)-[]->(a) return a < b as up", "3*[false] 2*[true]"},
		{"match ()-[]->() return 'x' as x", "5*['x']"},
		{"match (a:Cat) return a as n", ""},
		{"match (a) where false return 1 as n", ""},
	} {
		tells(t, c.text, g, c.want)
	}
	tells(t, "match (a) return a as n", api.Graph{Next: 1}, "")
}

func TestDistinct(t *testing.T) {
	g := sample.Town()
	for _, c := range []struct{ text, want string }{
		{"match (a) return distinct 1 as n", "1*[1]"},
		{"match (a) return distinct a.age as n", "1*[null] 1*[3]"},
		{"match (a) return distinct a.age as n, a as a", "1*[null,3] 1*[null,7] 1*[null,9] 1*[3,2]"},
		{"match (a)-[e]->(b) return distinct type(e) as t", "1*['KNOWS'] 1*['OWNS']"},
		{"match (a)-[e]->(b) return distinct a as a, b as b", "1*[3,2] 1*[3,7] 1*[7,3] 1*[7,7]"},
		{"match (a:Cat) return distinct 1 as n", ""},
		// Rows are told once, not what they are made of.
		{"match (a) return distinct count(1) as n", "1*[4]"},
		{"match (a) return distinct sum(1) as n, a.age as k", "1*[1,3] 1*[3,null]"},
		{"match (a:Cat) return distinct count(1) as n", "1*[0]"},
	} {
		tells(t, c.text, g, c.want)
	}
}

// What is made of many, all of one part.
func TestMany(t *testing.T) {
	all := "match (a) return count(a.x) as n, sum(a.x) as s, min(a.x) as l, max(a.x) as h"
	for _, c := range []struct {
		of   string
		want string
	}{
		{"", "1*[0,0,null,null]"},
		{"null", "1*[0,0,null,null]"},
		{"null null", "1*[0,0,null,null]"},
		{"5", "1*[1,5,5,5]"},
		{"5 null 5 7", "1*[3,17,5,7]"},
		{"-3 2 -9", "1*[3,-10,-9,2]"},
		{"3 -3", "1*[2,0,-3,3]"},
		{"10 9 100", "1*[3,119,9,100]"},
		{"'b' 'a' 'ab'", "1*[3,0,'a','b']"},
		{"true false", "1*[2,0,false,true]"},
		{"[2] [1,1] []", "1*[3,0,[],[2]]"},
		{"[null] null", "1*[1,0,[null],[null]]"},
		{"'a' 3 true null [1]", "1*[4,3,true,[1]]"},
		{"'7' true 2 [4] 2", "1*[5,4,true,[4]]"},
	} {
		tells(t, all, values(strings.Fields(c.of)...), c.want)
	}
}

// What is too great for an Int on the way to the sum isn't told of it.
func TestSums(t *testing.T) {
	const most, least = "9223372036854775807", "-9223372036854775808"
	for _, c := range []struct {
		of   []string
		want string
	}{
		{[]string{most}, most},
		{[]string{least}, least},
		{[]string{most, "0"}, most},
		{[]string{most, "1"}, "null"},
		{[]string{most, most}, "null"},
		{[]string{least, "-1"}, "null"},
		{[]string{least, least}, "null"},
		{[]string{most, least}, "-1"},
		{[]string{most, "1", "-1"}, most},
		{[]string{"1", most, "-1"}, most},
		{[]string{"-1", "1", least}, least},
		{[]string{"-1", least, "1"}, least},
		{[]string{least, "-1", "'a'"}, "null"},
		{[]string{most, most, least, least}, "-2"},
		{[]string{most, most, "2", least, least}, "0"},
		{[]string{least, least, most, most, "3"}, "1"},
		{[]string{most, most, most, least}, "null"},
		{slices.Repeat([]string{least}, api.MaxNodes), "null"},
		{append(slices.Repeat([]string{least}, 20), slices.Repeat([]string{most}, 20)...), "-20"},
		{slices.Repeat([]string{"9223372036854775807", "-9223372036854775807"}, 20), "0"},
	} {
		tells(t, "match (a) return sum(a.x) as n", values(c.of...), "1*["+c.want+"]")
	}
	tells(t, "match (a) return sum(9223372036854775807) as n", values(slices.Repeat([]string{"1"}, 2)...), "1*[null]")
	// As often as that is 0 again, if bits are lost.
	tells(t, "match ()-[]->() return sum(4611686018427387904) as n", api.Graph{Nodes: sample.Nodes(1), Edges: sample.Loops(4, 1), Next: 6}, "1*[null]")
	tells(t, "match ()-[]->() return sum(4611686018427387904) as n", api.Graph{Nodes: sample.Nodes(1), Edges: sample.Loops(60, 1), Next: 62}, "1*[null]")
}

// Parts are told by their values; those of an item stand where the item does.
func TestParts(t *testing.T) {
	g := holding([2]string{"1", "'a'"}, [2]string{"2", "'b'"}, [2]string{"3", "'a'"}, [2]string{"4", "null"}, [2]string{"null", "'b'"}, [2]string{"null", "'c'"}, [2]string{"5", "null"})
	for _, c := range []struct{ text, want string }{
		{"match (a) return a.k as k, count(a.x) as n", "1*[null,2] 1*['a',2] 1*['b',1] 1*['c',0]"},
		{"match (a) return count(a.x) as n, a.k as k", "1*[0,'c'] 1*[1,'b'] 1*[2,null] 1*[2,'a']"},
		{"match (a) return sum(a.x) as s, a.k as k, max(a) as m", "1*[0,'c',6] 1*[2,'b',5] 1*[4,'a',3] 1*[9,null,7]"},
		{"match (a) return a.k as k, min(a.x) as l, max(a.x) as h", "1*[null,4,5] 1*['a',1,3] 1*['b',2,2] 1*['c',null,null]"},
		{"match (a) return a.x is null as z, a.k is null as y, count(1) as n", "1*[false,false,3] 1*[false,true,2] 1*[true,false,2]"},
		{"match (a) return a.k as k, a.k as j, count(1) as n", "1*[null,null,2] 1*['a','a',2] 1*['b','b',2] 1*['c','c',1]"},
		{"match (a) return 7 as k, count(1) as n", "1*[7,7]"},
		{"match (a) return null as k, count(1) as n", "1*[null,7]"},
		{"match (a) return a as a, count(null) as n", "1*[1,0] 1*[2,0] 1*[3,0] 1*[4,0] 1*[5,0] 1*[6,0] 1*[7,0]"},
		{"match (a:None) return a.k as k, count(1) as n", ""},
		{"match (a) where a.x = 9 return count(1) as n, a.k as k", ""},
		{"match (a) return min(a.k) as a, max(a.k) as b, sum(a.k) as c, count(a.k) as d, count(a.k is null) as f", "1*['a','c',0,5,7]"},
		{"match (a) return count(a) as n, count(a) as m", "1*[7,7]"},
	} {
		tells(t, c.text, g, c.want)
	}
}

// By Order, Null is the same as Null, also within a list; of other values no two are.
func TestPartsOfAllKinds(t *testing.T) {
	g := values("[null]", "1", "'1'", "[1]", "true", "[[]]", "[]", "''", "0", "false", "[null]", "[null,null]", "null", "1", "[[]]", "null", "'1'", "[1]")
	tells(t, "match (a) return a.x as k, count(1) as n", g,
		"1*[null,2] 1*[false,1] 1*[true,1] 1*[0,1] 1*[1,2] 1*['',1] 1*['1',2] 1*[[],1] 1*[[null],2] 1*[[null,null],1] 1*[[1],2] 1*[[[]],2]")
	tells(t, "match (a) return count(a.x) as n, [a.x] as k, max(a.x is null) as z", values("null", "1", "null", "[]"),
		"1*[0,[null],true] 1*[1,[1],false] 1*[1,[[]],false]")
}

// Values that are too long to be printed are told from each other, too.
func TestPartsOfLongValues(t *testing.T) {
	long := strings.Repeat("a", api.MaxText-2)
	text := func(s string) string { return "'" + s + "'" }
	g := values(text(long), text(long[1:]+"b"), text(long))
	got, e := Ask(asked(t, "match (a) return [a.x, a.x, a.x] as k, a.x as x, count(1) as n"), g)
	if e != api.OK || len(got) != 2 || got[0].R[2].N != 2 || got[1].R[2].N != 1 || got[0].R[1].S != long || got[1].R[0].L[2].S != long[1:]+"b" {
		t.Errorf("%d rows, %d", len(got), e)
	}
}

func TestItems(t *testing.T) {
	g := values("1", "2")
	tells(t, "match (a) return a.x as a, a.x as b, a.x as c, a.x as d, a.x as e", g, "1*[1,1,1,1,1] 1*[2,2,2,2,2]")
	tells(t, "match (a) return a.x as a, a.x as b, a.x as c, a.x as d, sum(a.x) as e", g, "1*[1,1,1,1,1] 1*[2,2,2,2,2]")
	tells(t, "match (a) return sum(a.x) as a, sum(1) as b, max(a.x) as c, min(a.x) as d, 0 as e", g, "1*[3,2,2,1,0]")
}

func TestText(t *testing.T) {
	for _, c := range []struct {
		text string
		at   int
		want api.Errno
	}{
		{"", 0, api.ErrText},
		{"match", 5, api.ErrText},
		{"match (a) return", 16, api.ErrText},
		{"match (a) return a.x as", 23, api.ErrText},
		{"match (a) return average(a.x) as n", 24, api.ErrText},
		{"match (a) return count(count(1)) as n", 23, api.ErrText},
		{"match (a) return b as b", 0, api.ErrWho},
		{"match (a) return a as n, a as n", 0, api.ErrTwice},
		{"match (a) return type(a) as n", 0, api.ErrKind},
		{"match (a) return size() as n", 0, api.ErrForm},
		{strings.Repeat(" ", api.MaxText+1), 0, api.ErrMany},
	} {
		// The text's error is told ahead of the graph's.
		for _, g := range []api.Graph{sample.Town(), {}} {
			if got, at, e := Text(c.text, g); got != nil || at != c.at || e != c.want {
				t.Errorf("%s: %v, %d, %d, want %d at %d", c.text, got, at, e, c.want, c.at)
			}
		}
	}
	if got, at, e := Text("match (a) return 1 as n", api.Graph{}); got != nil || at != 0 || e != api.ErrRange {
		t.Errorf("a wrong graph: %v, %d, %d", got, at, e)
	}
	if got, at, e := Text("match ()-[]->()-[]->() return 1 as n", loops(45)); got != nil || at != 0 || e != api.ErrFull {
		t.Errorf("too many ways: %v, %d, %d", got, at, e)
	}
}

func TestAskRefuses(t *testing.T) {
	bad := sample.Town()
	bad.Edges[4].To = 1
	right := func() api.Query { return asked(t, "match (a)-[e]->(b) where a < b return count(1) as n, a as a") }
	for _, c := range []struct {
		what string
		do   func(q *api.Query)
		want api.Errno
	}{
		{"nothing", func(q *api.Query) { *q = api.Query{} }, api.ErrMany},
		{"no items", func(q *api.Query) { q.Items = nil }, api.ErrMany},
		{"too many items", func(q *api.Query) { q.Items = make([]api.Item, api.MaxItems+1) }, api.ErrMany},
		{"an arrow too few", func(q *api.Query) { q.Arrows = nil }, api.ErrForm},
		{"no such word", func(q *api.Query) { q.Items[0].Agg = "mean" }, api.ErrForm},
		{"a word in other letters", func(q *api.Query) { q.Items[0].Agg = "Count" }, api.ErrForm},
		{"an item without a name", func(q *api.Query) { q.Items[1].Name = "" }, api.ErrForm},
		{"two items with one name", func(q *api.Query) { q.Items[1].Name = "n" }, api.ErrTwice},
		{"an item of nobody", func(q *api.Query) { q.Items[1].T.Name = "c" }, api.ErrWho},
		{"an item that isn't a term", func(q *api.Query) { q.Items[1].T = api.Term{} }, api.ErrForm},
		{"a node's type", func(q *api.Query) { q.Items[1].T = sample.Call("type", sample.Var("a")) }, api.ErrKind},
		{"where asks for nobody", func(q *api.Query) { q.Where[0].A[1].Name = "c" }, api.ErrWho},
	} {
		q := right()
		c.do(&q)
		fails(t, c.what, q, sample.Town(), c.want)
		fails(t, c.what+", of a wrong graph", q, api.Graph{}, c.want)
	}
	fails(t, "an edge to nobody", right(), bad, api.ErrWho)
	fails(t, "no next", right(), api.Graph{}, api.ErrRange)
	fails(t, "too many nodes", right(), api.Graph{Nodes: sample.Nodes(41), Next: 42}, api.ErrMany)
}

// loops is a graph of a node with so many edges to itself: two steps go in as many ways as the square of that.
func loops(n int) api.Graph {
	return api.Graph{Nodes: sample.Nodes(1), Edges: sample.Loops(n, 1), Next: n + 2}
}

// Ways are counted, not rows: what is made of too many isn't told, either.
func TestFull(t *testing.T) {
	two := "match (a)-[e]->()-[f]->() "
	for _, items := range []string{"1 as n", "distinct 1 as n", "count(1) as n", "distinct max(e) as n", "e as e, count(f) as n", "e as e, f as f"} {
		fails(t, items, asked(t, two+"return "+items), loops(45), api.ErrFull)
	}
	tells(t, two+"return a as a", loops(44), "1936*[1]")
	tells(t, two+"return count(e) as n, sum(a) as s, max(e) as h, min(f) as l", loops(44), "1*[1936,1936,45,2]")
	tells(t, two+"return distinct a as a", loops(44), "1*[1]")
	tells(t, two+"where e = f return count(1) as n", loops(60), "1*[60]")
	// 40 loops, and 10 edges on: 40 times 50 ways are as many as may be.
	g := api.Graph{Nodes: sample.Nodes(2), Edges: sample.Loops(50, 2), Next: 53}
	for i := range 10 {
		g.Edges[40+i].To = 2
	}
	tells(t, two+"return count(1) as n", g, "1*[2000]")
	if got, e := Ask(asked(t, two+"return e as e, f as f"), g); e != api.OK || len(got) != api.MaxRows {
		t.Errorf("the most rows: %d, %d", len(got), e)
	}
	g.Edges = append(g.Edges, api.Edge{ID: 53, From: 2, To: 2, Type: "T"})
	g.Next = 54
	fails(t, "many more", asked(t, two+"return count(1) as n"), g, api.ErrFull)
}
