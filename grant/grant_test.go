package grant

import (
	"strconv"
	"strings"
	"testing"

	"espalier/api"
	"espalier/sample"
)

func TestCheckTakes(t *testing.T) {
	for what, l := range map[string][]api.Grant{
		"nothing":                     nil,
		"an empty list":               {},
		"as many as may be":           townGrants(),
		"no labels":                   {{Who: "eve", Labels: []string{}}},
		"as many labels as may be":    only("A", "B", "C", "D"),
		"labels that fall":            only("B", "A"),
		"a label twice":               only("A", "A"),
		"all, and a label":            only("A", ""),
		"all, twice":                  only("", ""),
		"the same labels to two":      {{Who: "ann", Labels: []string{"A"}}, {Who: "bob", Labels: []string{"A"}}},
		"one letter":                  {{Who: "a"}, {Who: "A"}, {Who: "_"}},
		"the longest names":           {{Who: "abcdefghijkl", Labels: []string{"abcdefghijkl"}}},
		"digits behind":               {{Who: "a1", Labels: []string{"_9"}}},
		"words that questions have":   {{Who: "match", Labels: []string{"return"}}},
		"names that fall":             {{Who: "bob"}, {Who: "ann"}},
		"a name that begins as other": {{Who: "ann"}, {Who: "anna"}, {Who: "an"}},
	} {
		if e := Check(l); e != api.OK {
			t.Errorf("%s: %d", what, e)
		}
	}
}

// Each of these is refused for a reason that is told ahead of all others that hold of it, too; by the other calls ahead of all that they are handed beside it.
func TestWrongGrants(t *testing.T) {
	five := append(townGrants(), api.Grant{Who: "fay"})
	long := []string{"A", "B", "C", "D", "E"}
	for _, c := range []struct {
		what string
		l    []api.Grant
		want api.Errno
	}{
		{"one too many", five, api.ErrMany},
		{"many without names", make([]api.Grant, 5), api.ErrMany},
		{"many more", make([]api.Grant, 5000), api.ErrMany},
		{"no name", []api.Grant{{}}, api.ErrForm},
		{"no name, a label that is granted to all", []api.Grant{{Labels: []string{""}}}, api.ErrForm},
		{"a digit ahead", []api.Grant{{Who: "1a"}}, api.ErrForm},
		{"a blank", []api.Grant{{Who: "a b"}}, api.ErrForm},
		{"a long name", []api.Grant{{Who: "abcdefghijklm"}}, api.ErrForm},
		{"a letter beyond z", []api.Grant{{Who: "\u00e9"}}, api.ErrForm},
		{"no name, too many labels", []api.Grant{{Labels: long}}, api.ErrForm},
		{"no name, twice", []api.Grant{{Who: "ann"}, {}, {}}, api.ErrForm},
		{"twice", []api.Grant{{Who: "ann"}, {Who: "ann"}}, api.ErrTwice},
		{"twice, others between", []api.Grant{{Who: "ann"}, {Who: "bob"}, {Who: "cid"}, {Who: "ann"}}, api.ErrTwice},
		{"twice, other labels", []api.Grant{{Who: "ann"}, {Who: "ann", Labels: []string{"A"}}}, api.ErrTwice},
		{"twice, too many labels", []api.Grant{{Who: "ann"}, {Who: "ann", Labels: long}}, api.ErrTwice},
		{"twice, a wrong label", []api.Grant{{Who: "ann"}, {Who: "ann", Labels: []string{"1"}}}, api.ErrTwice},
		{"too many labels", only(long...), api.ErrMany},
		{"the same label too often", only("A", "A", "A", "A", "A"), api.ErrMany},
		{"all, too often", only("", "", "", "", ""), api.ErrMany},
		{"too many labels, wrong ones", only("1", "2", "3", "4", "5"), api.ErrMany},
		{"too many labels, then no name", append(only(long...), api.Grant{}), api.ErrMany},
		{"too many labels, then twice", append(only(long...), only()...), api.ErrMany},
		{"a wrong label", only("1"), api.ErrForm},
		{"a wrong label behind others", only("A", "", "B", "a-b"), api.ErrForm},
		{"a long label", only("abcdefghijklm"), api.ErrForm},
		{"bytes that aren't a text", only("\xff"), api.ErrForm},
		{"a wrong label, then too many", append(only("1"), api.Grant{Who: "y", Labels: long}), api.ErrForm},
		{"a wrong label, then twice", append(only("1"), only()...), api.ErrForm},
		{"twice, then no name", append(append(only(), only()...), api.Grant{}), api.ErrTwice},
	} {
		if e := Check(c.l); e != c.want {
			t.Errorf("%s: %d, want %d", c.what, e, c.want)
		}
		for _, who := range []string{"ann", "x", "", "zoe"} {
			for _, g := range []api.Graph{sample.Town(), {}} {
				refuses(t, c.what, c.l, who, asked(t, "match (a) return a as a"), g, c.want)
				refuses(t, c.what+", no question", c.l, who, api.Query{}, g, c.want)
			}
		}
	}
}

// A wrong graph is told ahead of who asks, and of what is asked, also where what is wrong wouldn't be seen; and that nobody is who ahead of what is asked.
func TestErrorsInTheirOrder(t *testing.T) {
	questions := []api.Query{asked(t, "match (a) return a as a"), {}}
	for _, q := range questions {
		for want, g := range wrongTowns() {
			for _, who := range []string{"ann", "bob", "eve", "zoe", ""} {
				refuses(t, "a wrong graph", townGrants(), who, q, g, want)
			}
			refuses(t, "a wrong graph, no grants", nil, "ann", q, g, want)
		}
		for _, who := range []string{"zoe", "", "an", "anna", "Ann", "Person", "ann ", "1", "\xff"} {
			refuses(t, "nobody is "+strconv.Quote(who), townGrants(), who, q, sample.Town(), api.ErrMay)
			refuses(t, "no grants", nil, who, q, sample.Town(), api.ErrMay)
			refuses(t, "nothing to see", townGrants(), who, q, api.Graph{Next: 1}, api.ErrMay)
		}
	}
}

func TestSee(t *testing.T) {
	for _, c := range []struct {
		labels string
		want   string
	}{
		{"", "2 3 7 9;1 4 5 11 12"},
		{",", "2 3 7 9;1 4 5 11 12"},
		{"Cat,", "2 3 7 9;1 4 5 11 12"},
		{",Person", "2 3 7 9;1 4 5 11 12"},
		{"Person", "3 7;4 5 11 12"},
		{"Person,Person", "3 7;4 5 11 12"},
		{"Dog", "2;"},
		{"Pet", "2;"},
		{"Pet,Dog", "2;"},
		{"Person,Dog", "2 3 7;1 4 5 11 12"},
		{"Pet,Cat,Person,Dog", "2 3 7;1 4 5 11 12"},
		{"Cat", ";"},
		{"person", ";"},
		{"Perso", ";"},
		{"Persons", ";"},
		{"KNOWS", ";"},
		{"age", ";"},
	} {
		got := seenBy(t, only(strings.Split(c.labels, ",")...), "x", sample.Town())
		if numbers(got) != c.want || got.Next != 13 {
			t.Errorf("%q: %s, next %d, want %s", c.labels, numbers(got), got.Next, c.want)
		}
	}
	for who, want := range map[string]string{"ann": "2 3 7 9;1 4 5 11 12", "bob": "3 7;4 5 11 12", "cid": "2;", "eve": ";"} {
		got := seenBy(t, townGrants(), who, sample.Town())
		if numbers(got) != want || got.Next != 13 {
			t.Errorf("%s: %s, next %d, want %s", who, numbers(got), got.Next, want)
		}
		if got := seenBy(t, townGrants(), who, api.Graph{Next: 5}); !alike(got, api.Graph{Next: 5}) {
			t.Errorf("%s, of nothing: %v", who, got)
		}
	}
}

// What is seen is seen whole: also its labels that aren't granted.
func TestSeenWhole(t *testing.T) {
	town := sample.Town()
	want := api.Graph{Nodes: town.Nodes[:1], Next: 13}
	if got := seenBy(t, only("Pet"), "x", town); !alike(got, want) {
		t.Errorf("%v, want %v", got, want)
	}
	if got := seenBy(t, only(""), "x", town); !alike(got, town) {
		t.Errorf("%v, want %v", got, town)
	}
}

// An edge to a node that isn't seen isn't, whichever end that is.
func TestEdgesBetween(t *testing.T) {
	g := api.Graph{Next: 20, Nodes: []api.Node{{ID: 1, Labels: []string{"A"}}, {ID: 2, Labels: []string{"B"}}, {ID: 3, Labels: []string{"A", "B"}}}}
	for from := 1; from <= 3; from++ {
		for to := 1; to <= 3; to++ {
			g.Edges = append(g.Edges, api.Edge{ID: 3*from + to, From: from, To: to, Type: "T"})
		}
	}
	for label, want := range map[string]string{"A": "1 3;4 6 10 12", "B": "2 3;8 9 11 12", "": "1 2 3;4 5 6 7 8 9 10 11 12", "T": ";"} {
		if got := numbers(seenBy(t, only(label), "x", g)); got != want {
			t.Errorf("%q: %s, want %s", label, got, want)
		}
	}
}

func TestMay(t *testing.T) {
	for _, c := range []struct {
		what string
		o    api.Op
		want string // those of the town's grants who may
	}{
		{"an edge between people", api.Op{Kind: api.AddEdge, From: 3, To: 7}, "ann bob"},
		{"a ring", api.Op{Kind: api.AddEdge, From: 2, To: 2}, "ann cid"},
		{"an edge to the dog", api.Op{Kind: api.AddEdge, From: 3, To: 2}, "ann"},
		{"an edge from the dog", api.Op{Kind: api.AddEdge, From: 2, To: 3}, "ann"},
		{"an edge from nobody", api.Op{Kind: api.AddEdge, From: 6, To: 3}, ""},
		{"an edge to nobody", api.Op{Kind: api.AddEdge, From: 3, To: 6}, ""},
		{"an edge from an edge", api.Op{Kind: api.AddEdge, From: 4, To: 3}, ""},
		{"an edge to an edge", api.Op{Kind: api.AddEdge, From: 3, To: 4}, ""},
		{"an edge to what will be added", api.Op{Kind: api.AddEdge, From: 3, To: 13}, ""},
		{"an edge of nothing", api.Op{Kind: api.AddEdge, ID: 3}, ""},
		{"a person goes", api.Op{Kind: api.DropNode, ID: 7}, "ann bob"},
		{"the dog goes", api.Op{Kind: api.DropNode, ID: 2}, "ann cid"},
		{"a node without labels goes", api.Op{Kind: api.DropNode, ID: 9}, "ann"},
		{"an edge goes as a node", api.Op{Kind: api.DropNode, ID: 4}, ""},
		{"nobody goes", api.Op{Kind: api.DropNode, ID: 6}, ""},
		{"an edge goes", api.Op{Kind: api.DropEdge, ID: 4}, "ann bob"},
		{"an edge to the dog goes", api.Op{Kind: api.DropEdge, ID: 1}, "ann"},
		{"a node goes as an edge", api.Op{Kind: api.DropEdge, ID: 3}, ""},
		{"no edge goes", api.Op{Kind: api.DropEdge, ID: 6}, ""},
		{"of a person", api.Op{Kind: api.Set, ID: 3}, "ann bob"},
		{"of the dog", api.Op{Kind: api.Set, ID: 2}, "ann cid"},
		{"of a node without labels", api.Op{Kind: api.Set, ID: 9}, "ann"},
		{"of an edge", api.Op{Kind: api.Set, ID: 12}, "ann bob"},
		{"of an edge to the dog", api.Op{Kind: api.Set, ID: 1}, "ann"},
		{"of nobody", api.Op{Kind: api.Set, ID: 6}, ""},
		{"of the next", api.Op{Kind: api.Set, ID: 13}, ""},
		{"of 0", api.Op{Kind: api.Set}, ""},
		{"of the least number", api.Op{Kind: api.Set, ID: -1 << 63}, ""},
	} {
		mayBe(t, c.what, c.o, c.want)
		// What it would be changed to doesn't matter, nor whether that goes.
		c.o.Name, c.o.Value, c.o.Labels, c.o.Props = "no name", sample.WrongText(), []string{"Person"}, sample.Numbered(9)
		mayBe(t, c.what+", wrongly", c.o, c.want)
	}
	for id, want := range map[int]string{2: "ann cid", 3: "ann bob", 7: "ann bob", 9: "ann", 4: "", 5: "", 1: "", 0: "", 6: "", 13: "", -1: "", -3: "", 1<<63 - 1: ""} {
		for _, name := range []string{"Person", "Pet", "", "no name"} {
			for _, kind := range []int{api.Tag, api.Untag} {
				mayBe(t, "a label", api.Op{Kind: kind, ID: id, From: 3, To: 3, Name: name}, want)
			}
		}
	}
}

// A node that is added is seen by its labels alone.
func TestMayAdd(t *testing.T) {
	for labels, want := range map[string]string{
		"Person": "ann bob", "Pet": "ann cid", "Cat": "ann cid", "Dog,Person": "ann bob cid", "Bird,Cat": "ann cid", "Bird": "ann", "person": "ann", "": "ann",
	} {
		o := api.Op{Kind: api.AddNode, Labels: strings.Split(labels, ",")}
		if labels == "" {
			o.Labels = nil
		}
		mayBe(t, labels, o, want)
		o.ID, o.From, o.To, o.Name = 3, 3, 3, "Person"
		mayBe(t, labels+", with numbers", o, want)
		o.Labels = append(o.Labels, "")
		mayBe(t, labels+", and one that isn't a label", o, want)
	}
}

func TestMayOfNoKind(t *testing.T) {
	for _, kind := range []int{-1 << 63, -1, 0, 8, 9, 1<<63 - 1} {
		mayBe(t, "no such kind", api.Op{Kind: kind, ID: 3, From: 3, To: 3, Name: "Person", Labels: []string{"Person", "Pet"}}, "")
	}
}

// mayBe tells who of the town's grants may do an operation.
func mayBe(t *testing.T, what string, o api.Op, want string) {
	t.Helper()
	var who []string
	for _, x := range townGrants() {
		may, e := May(townGrants(), x.Who, sample.Town(), o)
		if e != api.OK {
			t.Errorf("%s, %v, %s: %d", what, o, x.Who, e)
		}
		if may {
			who = append(who, x.Who)
		}
	}
	if got := strings.Join(who, " "); got != want {
		t.Errorf("%s, %v: %q, want %q", what, o, got, want)
	}
}

func TestAskAndKept(t *testing.T) {
	for _, c := range []struct{ text, who, told, kept string }{
		{"match (a) return a as a", "ann", "1*[2] 1*[3] 1*[7] 1*[9]", ""},
		{"match (a) return a as a", "bob", "1*[3] 1*[7]", "1*[2] 1*[9]"},
		{"match (a) return a as a", "cid", "1*[2]", "1*[3] 1*[7] 1*[9]"},
		{"match (a) return a as a", "eve", "", "1*[2] 1*[3] 1*[7] 1*[9]"},
		{"match (a) return 1 as n", "bob", "2*[1]", "2*[1]"},
		{"match (a:Dog) return a.name as n", "bob", "", "1*['Rex']"},
		{"match (a)-[e]->(b) return type(e) as t", "bob", "3*['KNOWS'] 1*['OWNS']", "1*['OWNS']"},
		{"match (a)-[e]->(b) return type(e) as t", "cid", "", "3*['KNOWS'] 2*['OWNS']"},
		{"match (a)-[*]->(b) return a as a, b as b", "bob", "1*[3,3] 1*[3,7] 1*[7,3] 1*[7,7]", "1*[3,2] 1*[7,2]"},
		// Each row once: of those that are told already nothing is kept.
		{"match (a) return distinct 1 as n", "bob", "1*[1]", ""},
		{"match (a) return distinct 1 as n", "eve", "", "1*[1]"},
		{"match (a) return distinct a.age as n", "bob", "1*[null]", "1*[3]"},
		// What is made of many is another row, if it is made of fewer.
		{"match (a) return count(a) as n", "ann", "1*[4]", ""},
		{"match (a) return count(a) as n", "bob", "1*[2]", "-1*[2] 1*[4]"},
		{"match (a) return count(a) as n", "eve", "1*[0]", "-1*[0] 1*[4]"},
		{"match (a) return sum(a) as s, max(a) as m", "bob", "1*[10,7]", "-1*[10,7] 1*[21,9]"},
		{"match (a) return max(a.age) as m", "bob", "1*[null]", "-1*[null] 1*[3]"},
		{"match (a:Person) return count(a) as n", "bob", "1*[2]", ""},
		{"match (a)-[e]->(b) return a as a, count(e) as n", "bob", "1*[3,2] 1*[7,2]", "-1*[3,2] 1*[3,3]"},
		{"match (a) where a < 5 return a as a", "bob", "1*[3]", "1*[2]"},
	} {
		q := asked(t, c.text)
		if got, e := Ask(townGrants(), c.who, q, sample.Town()); e != api.OK || wrote(got) != c.told {
			t.Errorf("%s, %s: %s, %d, want %s", c.text, c.who, wrote(got), e, c.told)
		}
		if got, e := Kept(townGrants(), c.who, q, sample.Town()); e != api.OK || wrote(got) != c.kept {
			t.Errorf("%s, kept from %s: %s, %d, want %s", c.text, c.who, wrote(got), e, c.kept)
		}
	}
}

func TestWrongQuestions(t *testing.T) {
	right := func() api.Query { return asked(t, "match (a)-[e]->(b) where a < b return count(1) as n, a as a") }
	for _, c := range []struct {
		what string
		do   func(q *api.Query)
		want api.Errno
	}{
		{"nothing", func(q *api.Query) { *q = api.Query{} }, api.ErrMany},
		{"an arrow too few", func(q *api.Query) { q.Arrows = nil }, api.ErrForm},
		{"no such word", func(q *api.Query) { q.Items[0].Agg = "mean" }, api.ErrForm},
		{"two items with one name", func(q *api.Query) { q.Items[1].Name = "n" }, api.ErrTwice},
		{"an item of nobody", func(q *api.Query) { q.Items[1].T.Name = "c" }, api.ErrWho},
		{"a node's type", func(q *api.Query) { q.Items[1].T = sample.Call("type", sample.Var("a")) }, api.ErrKind},
	} {
		q := right()
		c.do(&q)
		for _, x := range townGrants() {
			refusesToTell(t, c.what, townGrants(), x.Who, q, sample.Town(), c.want, c.want)
		}
	}
}

// Ways that aren't seen don't count for who asks; for what is kept from him they do.
func TestFull(t *testing.T) {
	g := api.Graph{Nodes: []api.Node{{ID: 1, Labels: []string{"Ring"}}, {ID: 2, Labels: []string{"End"}}}, Next: 60}
	for id := 3; id < 48; id++ {
		g.Edges = append(g.Edges, api.Edge{ID: id, From: 1, To: 1, Type: "T"})
	}
	for _, items := range []string{"1 as n", "distinct 1 as n", "count(1) as n"} {
		q := asked(t, "match (a)-[]->()-[]->() return "+items)
		refusesToTell(t, "all", only(""), "x", q, g, api.ErrFull, api.ErrFull)
		refusesToTell(t, "the ring", only("Ring"), "x", q, g, api.ErrFull, api.ErrFull)
		refusesToTell(t, "the end", only("End"), "x", q, g, api.OK, api.ErrFull)
		refusesToTell(t, "nothing", only(), "x", q, g, api.OK, api.ErrFull)
	}
	g.Edges = g.Edges[1:]
	q := asked(t, "match (a)-[]->()-[]->() return 1 as n")
	if got, e := Ask(only("Ring"), "x", q, g); e != api.OK || wrote(got) != "1936*[1]" {
		t.Errorf("one edge fewer: %s, %d", wrote(got), e)
	}
	if got, e := Kept(only("End"), "x", q, g); e != api.OK || wrote(got) != "1936*[1]" {
		t.Errorf("one edge fewer, kept: %s, %d", wrote(got), e)
	}
}
