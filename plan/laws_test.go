package plan

import (
	"slices"
	"testing"

	"espalier/api"
	"espalier/ask"
	"espalier/sample"
)

// alike tells whether two have answered the same, and how many rows that are.
func alike(t *testing.T, what string, q api.Query, g api.Graph, got, want api.Bag, e, f api.Errno) int {
	t.Helper()
	if e != f || rows(got) != rows(want) {
		t.Fatalf("%s, %v of %v: %s, %d, want %s, %d", what, q, g, rows(got), e, rows(want), f)
	}
	return len(want)
}

// free is a question that stands in many ways: it takes nearly any labels and types, and has a name twice now and then.
func free(s *sample.Source) api.Query {
	q := s.Loose()
	q.Where = nil
	met := map[string]int{}
	for i, d := range q.Dots {
		if s.Below(4) > 0 {
			q.Dots[i].Label = ""
		}
		if met[d.Name]++; met[d.Name] > 1 && s.Below(5) > 0 {
			q.Dots[i].Name = ""
		}
	}
	for i := range q.Arrows {
		if s.Below(4) > 0 {
			q.Arrows[i].Type = ""
		}
	}
	return q
}

// Both plans of any question tell what chapter 10 tells.
func TestBothPlansTellWhatAskTells(t *testing.T) {
	s := sample.New(113)
	told, full, none := 0, 0, 0
	for i := range 6000 {
		g, q := s.Graph(5+i%60), s.Loose()
		if i%2 > 0 {
			q = free(s)
		}
		if i%3 > 0 {
			q.Where = []api.Term{s.Where(q)}
		}
		want, f := ask.Ask(q, g)
		for _, early := range []bool{false, true} {
			p, _ := Of(q, early)
			got, e := Run(q, p, g)
			told += alike(t, "a plan", q, g, got, want, e, f)
		}
		if f == api.ErrFull {
			full++
		}
		if f == api.OK && len(want) == 0 {
			none++
		}
	}
	if told < 5000 || full < 10 || none < 500 {
		t.Errorf("%d rows, %d full, %d with none", told, full, none)
	}
}

// Greater graphs, and no where: there are often more ways than there may be.
func TestBothPlansTellWhatAskTellsOfGreaterGraphs(t *testing.T) {
	s := sample.New(114)
	told, full := 0, 0
	for i := range 2000 {
		g, q := s.Graph(150), free(s)
		if i%2 == 0 {
			q.Where = []api.Term{s.Where(q)}
		}
		want, f := ask.Ask(q, g)
		for _, early := range []bool{false, true} {
			p, _ := Of(q, early)
			got, e := Run(q, p, g)
			told += alike(t, "a plan", q, g, got, want, e, f)
		}
		if f == api.ErrFull {
			full++
		}
	}
	if told < 5000 || full < 50 {
		t.Errorf("%d rows, %d full", told, full)
	}
}

// parted is a way as Told takes it, of one that tells nodes and edges in turns.
func parted(way []int) []int {
	var nodes, edges []int
	for i, id := range way {
		if i%2 == 0 {
			nodes = append(nodes, id)
		} else {
			edges = append(edges, id)
		}
	}
	return slices.Concat(nodes, edges)
}

// Any plan finds what it says, taken by the word, whatever the question asks.
func TestAnyPlanFindsWhatItSays(t *testing.T) {
	s := sample.New(115)
	told, some, less := 0, 0, 0
	for i := range 4000 {
		g, q := s.Graph(20+i%40), free(s)
		p := s.Plan(q)
		found := byTheWord(q, p, g)
		var ways [][]int
		for _, w := range found {
			ways = append(ways, parted(w))
		}
		var want api.Bag
		f := api.ErrFull
		if len(ways) <= api.MaxRows {
			want, f = ask.Told(q, g, ways)
		}
		got, e := Run(q, p, g)
		told += alike(t, wrote(t, q, p), q, g, got, want, e, f)
		if found := find(q, p, g); f == api.OK && !sameWays(found, ways) {
			t.Fatalf("%s, %v of %v: %v, want %v", wrote(t, q, p), q, g, found, ways)
		}
		if len(ways) > 0 {
			some++
		}
		if len(ways) > 0 && len(ways) < len(find(q, bare(len(q.Dots)), g)) {
			less++
		}
	}
	if told < 3000 || some < 1000 || less < 100 {
		t.Errorf("%d rows, %d find some, %d less than all", told, some, less)
	}
}

func sameWays(a, b [][]int) bool {
	slices.SortFunc(a, slices.Compare)
	slices.SortFunc(b, slices.Compare)
	return slices.EqualFunc(a, b, slices.Equal[[]int])
}

// Sifts change places with each other, and go in or out as far as their names are found: the same is told.
func TestWhenItIsAskedMakesNoDifference(t *testing.T) {
	s := sample.New(116)
	told, moved := 0, 0
	for i := range 3000 {
		g, q := s.Graph(20+i%60), free(s)
		p := s.Plan(q)
		want, f := Run(q, p, g)
		terms := asked(p)
		for i := range terms {
			k := s.Below(i + 1)
			terms[i], terms[k] = terms[k], terms[i]
		}
		for _, early := range []bool{false, true} {
			x := asking(q, early, terms)
			got, e := Run(q, x, g)
			told += alike(t, wrote(t, q, x), q, g, got, want, e, f)
			if wrote(t, q, x) != wrote(t, q, p) {
				moved++
			}
			if f == api.OK && !sameWays(find(q, x, g), find(q, p, g)) {
				t.Fatalf("%v of %v: %s isn't %s", q, g, wrote(t, q, x), wrote(t, q, p))
			}
		}
	}
	if told < 2000 || moved < 2000 {
		t.Errorf("%d rows, %d moved", told, moved)
	}
}
