package sample

import (
	"testing"

	"espalier/api"
	"espalier/query"
)

func TestQueriesOfAllKinds(t *testing.T) {
	s := New(4)
	met := map[string]int{}
	note := func(what string, holds bool) {
		if holds {
			met[what]++
		}
	}
	for range 3000 {
		q := s.Query(api.MaxDeep)
		if e := query.Check(q); e != api.OK {
			t.Fatalf("%v: %d", q, e)
		}
		note("where", len(q.Where) > 0)
		note("distinct", q.Distinct)
		note("most steps", len(q.Arrows) == api.MaxSteps)
		note("no step", len(q.Arrows) == 0)
		note("most items", len(q.Items) == api.MaxItems)
		for _, d := range q.Dots {
			note("dot's name", d.Name != "")
			note("no dot's name", d.Name == "")
			note("label", d.Label != "")
			note("no label", d.Label == "")
		}
		for _, x := range q.Arrows {
			note("arrow's name", x.Name != "")
			note("type", x.Type != "")
			note("no type", x.Type == "")
			note("back", x.Back)
			note("many", x.Many)
			note("neither", !x.Many && x.Name == "")
		}
		for _, x := range q.Items {
			note("agg"+x.Agg, true)
		}
	}
	if len(met) != 20 {
		t.Errorf("%v", met)
	}
	for what, n := range met {
		if n < 200 {
			t.Errorf("%s: %d", what, n)
		}
	}
}
