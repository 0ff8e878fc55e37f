package query

import (
	"reflect"
	"testing"

	"espalier/api"
	"espalier/sample"
)

func TestCheckTakes(t *testing.T) {
	for what, do := range map[string]func(q *api.Query){
		"as it is":               func(q *api.Query) {},
		"no where":               func(q *api.Query) { q.Where = nil },
		"an empty where":         func(q *api.Query) { q.Where = []api.Term{} },
		"one dot":                func(q *api.Query) { *q = ask(one()) },
		"one dot, empty arrows":  func(q *api.Query) { *q = ask(one()); q.Arrows = []api.Arrow{} },
		"most dots":              func(q *api.Query) { *q = ask(one()); q.Dots, q.Arrows = make([]api.Dot, 5), make([]api.Arrow, 4) },
		"dots with one name":     func(q *api.Query) { q.Dots[1].Name, q.Dots[3].Name = "a", "a"; q.Items = ask(one()).Items },
		"reserved label, type":   func(q *api.Query) { q.Dots[0].Label, q.Arrows[0].Type = "null", "count" },
		"the longest names":      func(q *api.Query) { q.Dots[3].Name, q.Items[1].Name = "abcdefghijkl", "_23456789012" },
		"an item with an edge's": func(q *api.Query) { q.Items[0].Name = "e" },
		"a label that is a name": func(q *api.Query) { q.Dots[0].Label, q.Arrows[0].Type = "a", "e" },
		"most items":             func(q *api.Query) { q.Items = items(5) },
		"a term of both":         func(q *api.Query) { q.Where[0] = apply("=", field("e", "x"), field("b", "x")) },
		"the deepest term":       func(q *api.Query) { q.Where[0] = nest(one(), api.MaxDeep-1) },
	} {
		q := whole()
		do(&q)
		if e := Check(q); e != api.OK {
			t.Errorf("%s: %d", what, e)
		}
	}
	for _, agg := range []string{"", "count", "sum", "min", "max"} {
		q := ask(one())
		q.Items[0].Agg = agg
		if e := Check(q); e != api.OK {
			t.Errorf("%q: %d", agg, e)
		}
	}
}

// items are so many with names of their own.
func items(n int) []api.Item {
	var l []api.Item
	for _, s := range sample.Names(n) {
		l = append(l, api.Item{Name: s, T: one()})
	}
	return l
}

// broken is what is done to a question, and what is wrong with it then.
type broken struct {
	what string
	do   func(q *api.Query)
	want api.Errno
}

func refuses(t *testing.T, l []broken) {
	t.Helper()
	for _, c := range l {
		q := whole()
		c.do(&q)
		if e := Check(q); e != c.want {
			t.Errorf("%s: %d, want %d", c.what, e, c.want)
		}
		if names, arrows, e := Names(q); e != c.want || names != nil || arrows != nil {
			t.Errorf("%s: Names tells %q, %v, %d, want %d", c.what, names, arrows, e, c.want)
		}
		if s, e := Print(q); e != c.want || s != "" {
			t.Errorf("%s: Print tells %q, %d, want %d", c.what, s, e, c.want)
		}
	}
}

func TestCheckCounts(t *testing.T) {
	refuses(t, []broken{
		{"nothing", func(q *api.Query) { *q = api.Query{} }, api.ErrMany},
		{"no dots", func(q *api.Query) { q.Dots, q.Arrows = nil, nil }, api.ErrMany},
		{"too many dots", func(q *api.Query) { q.Dots, q.Arrows = make([]api.Dot, 6), make([]api.Arrow, 5) }, api.ErrMany},
		{"too many dots, no arrows", func(q *api.Query) { q.Dots, q.Arrows = make([]api.Dot, 6), nil }, api.ErrMany},
		{"no items", func(q *api.Query) { q.Items = nil }, api.ErrMany},
		{"no items, all else wrong", func(q *api.Query) { q.Items, q.Dots[0].Name, q.Arrows = nil, "1", nil }, api.ErrMany},
		{"too many items", func(q *api.Query) { q.Items = items(6) }, api.ErrMany},
		{"two terms", func(q *api.Query) { q.Where = many(constant(yes), 2) }, api.ErrMany},
		{"two wrong terms", func(q *api.Query) { q.Where = make([]api.Term, 2) }, api.ErrMany},
		{"too few arrows", func(q *api.Query) { q.Arrows = q.Arrows[:2] }, api.ErrForm},
		{"no arrows", func(q *api.Query) { q.Arrows = nil }, api.ErrForm},
		{"too many arrows", func(q *api.Query) { q.Dots = q.Dots[:3] }, api.ErrForm},
		{"an arrow and one dot", func(q *api.Query) { q.Dots, q.Arrows = q.Dots[:1], q.Arrows[:1] }, api.ErrForm},
		{"too few arrows, twice", func(q *api.Query) { q.Arrows = []api.Arrow{{Name: "a"}} }, api.ErrForm},
	})
}

func TestCheckPattern(t *testing.T) {
	for _, s := range []string{"1", "a b", "é", "abcdefghijklm", "a-b", ":", " "} {
		refuses(t, []broken{
			{"dot " + s, func(q *api.Query) { q.Dots[3].Name = s }, api.ErrForm},
			{"label " + s, func(q *api.Query) { q.Dots[3].Label = s }, api.ErrForm},
			{"arrow " + s, func(q *api.Query) { q.Arrows[0].Name = s }, api.ErrForm},
			{"type " + s, func(q *api.Query) { q.Arrows[2].Type = s }, api.ErrForm},
			{"item " + s, func(q *api.Query) { q.Items[0].Name = s }, api.ErrForm},
			{"agg " + s, func(q *api.Query) { q.Items[0].Agg = s }, api.ErrForm},
		})
	}
	for _, s := range []string{"match", "null", "count", "id"} {
		refuses(t, []broken{
			{"dot " + s, func(q *api.Query) { q.Dots[3].Name = s }, api.ErrForm},
			{"arrow " + s, func(q *api.Query) { q.Arrows[0].Name = s }, api.ErrForm},
			{"item " + s, func(q *api.Query) { q.Items[1].Name = s }, api.ErrForm},
		})
	}
	refuses(t, []broken{
		{"many with a name", func(q *api.Query) { q.Arrows[1].Name = "f" }, api.ErrForm},
		{"many with a dot's name", func(q *api.Query) { q.Arrows[1].Name = "a" }, api.ErrForm},
		{"a dot's name", func(q *api.Query) { q.Arrows[0].Name = "a" }, api.ErrTwice},
		{"a later dot's name", func(q *api.Query) { q.Arrows[0].Name, q.Dots[3].Name = "z", "z" }, api.ErrTwice},
		{"an arrow's name", func(q *api.Query) { q.Arrows[2] = api.Arrow{Name: "e"} }, api.ErrTwice},
		{"twice, and a form behind", func(q *api.Query) { q.Arrows[0].Name, q.Arrows[2].Type = "a", "1" }, api.ErrForm},
		{"twice, and a nobody", func(q *api.Query) { q.Arrows[0].Name, q.Where[0] = "a", variable("q") }, api.ErrTwice},
	})
}

func TestCheckTerms(t *testing.T) {
	long := constant(sample.LongText())
	refuses(t, []broken{
		{"where: a nobody", func(q *api.Query) { q.Where[0] = variable("q") }, api.ErrWho},
		{"where: an item's name", func(q *api.Query) { q.Where[0] = variable("n") }, api.ErrWho},
		{"where: a label", func(q *api.Query) { q.Where[0] = variable("P") }, api.ErrWho},
		{"where: no term", func(q *api.Query) { q.Where[0] = api.Term{} }, api.ErrForm},
		{"where: type of a node", func(q *api.Query) { q.Where[0] = apply("type", variable("a")) }, api.ErrKind},
		{"where: too deep", func(q *api.Query) { q.Where[0] = nest(one(), api.MaxDeep) }, api.ErrMany},
		{"where: too long", func(q *api.Query) { q.Where[0] = long }, api.ErrMany},
		{"where, and the items", func(q *api.Query) { q.Where[0], q.Items[0].Name = variable("q"), "1" }, api.ErrWho},
		{"item: a nobody", func(q *api.Query) { q.Items[1].T = variable("q") }, api.ErrWho},
		{"item: number of a call", func(q *api.Query) { q.Items[1].T = apply("id", apply("id", variable("a"))) }, api.ErrKind},
		{"item: no term", func(q *api.Query) { q.Items[1].T = api.Term{} }, api.ErrForm},
		{"item: too long", func(q *api.Query) { q.Items[1].T = long }, api.ErrMany},
		{"item: no such agg", func(q *api.Query) { q.Items[1].Agg = "avg" }, api.ErrForm},
		{"item: no name", func(q *api.Query) { q.Items[1].Name = "" }, api.ErrForm},
		{"item: twice", func(q *api.Query) { q.Items[1].Name = "n" }, api.ErrTwice},
		{"item: twice, and no such agg", func(q *api.Query) { q.Items[1].Name, q.Items[1].Agg = "n", "avg" }, api.ErrForm},
		{"item: twice, and a nobody", func(q *api.Query) { q.Items[1].Name, q.Items[1].T = "n", variable("q") }, api.ErrTwice},
		{"item: a nobody ahead of twice", func(q *api.Query) { q.Items[1].Name, q.Items[0].T = "n", variable("q") }, api.ErrWho},
		{"item: a nobody ahead of no name", func(q *api.Query) { q.Items[1].Name, q.Items[0].T = "", variable("q") }, api.ErrWho},
	})
}

func TestNames(t *testing.T) {
	for _, c := range []struct {
		do     func(q *api.Query)
		names  []string
		arrows []bool
	}{
		{func(q *api.Query) {}, []string{"a", "b", "e"}, []bool{false, false, true}},
		{func(q *api.Query) { *q = ask(one()) }, []string{"a"}, []bool{false}},
		{func(q *api.Query) { *q = ask(one()); q.Dots[0].Name = "" }, nil, nil},
		{func(q *api.Query) { q.Dots[2].Name, q.Dots[3].Name = "a", "B" }, []string{"B", "a", "b", "e"}, []bool{false, false, false, true}},
		{func(q *api.Query) { q.Arrows[1], q.Arrows[2] = api.Arrow{Name: "_"}, api.Arrow{Name: "aa"} }, []string{"_", "a", "aa", "b", "e"}, []bool{true, false, true, false, true}},
	} {
		q := whole()
		c.do(&q)
		names, arrows, e := Names(q)
		if e != api.OK || !reflect.DeepEqual(names, c.names) || !reflect.DeepEqual(arrows, c.arrows) {
			t.Errorf("%v: %q, %v, %d, want %q, %v", q, names, arrows, e, c.names, c.arrows)
		}
	}
}
