package match

import (
	"slices"
	"testing"

	"espalier/api"
	"espalier/sample"
)

// tried tells that All finds what is found by trying all, and how many ways that are.
func tried(t *testing.T, q api.Query, g api.Graph) int {
	t.Helper()
	want := byTrying(q, g)
	got, e := All(q, g)
	if len(want) > api.MaxRows {
		if got != nil || e != api.ErrFull {
			t.Fatalf("%v in %v: %d ways, %d, but there are %d", q, g, len(got), e, len(want))
		}
	} else if e != api.OK || !equal(got, want) {
		t.Fatalf("%v in %v: %v, %d, want %v", q, g, got, e, want)
	}
	return len(want)
}

// Small graphs, and patterns of all kinds.
func TestAllIsWhatTryingFinds(t *testing.T) {
	s := sample.New(81)
	met := map[string]int{}
	for i := range 6000 {
		g, q := s.Graph(5+i%25), s.Loose()
		if i%3 > 0 {
			q.Where = []api.Term{s.Where(q)}
		}
		n := tried(t, q, g)
		some := n > 0 && n <= api.MaxRows
		note(met, "some", some)
		note(met, "none", n == 0)
		note(met, "some, most steps", some && len(q.Arrows) == api.MaxSteps)
		note(met, "some, where", some && len(q.Where) > 0)
		note(met, "some, a name twice", some && twice(q))
		note(met, "some, many", some && slices.ContainsFunc(q.Arrows, func(x api.Arrow) bool { return x.Many }))
	}
	for what, n := range met {
		if n < 100 {
			t.Errorf("%s: only %d", what, n)
		}
	}
	if len(met) != 6 {
		t.Errorf("%v", met)
	}
}

func note(met map[string]int, what string, holds bool) {
	if holds {
		met[what]++
	}
}

// twice tells whether dots share a name.
func twice(q api.Query) bool {
	met := map[string]int{}
	for _, d := range q.Dots {
		if d.Name != "" {
			met[d.Name]++
		}
		if met[d.Name] > 1 {
			return true
		}
	}
	return false
}

// Greater graphs, and patterns of few steps: here Where leaves some of many, and there are more than there may be.
func TestAllIsWhatTryingFindsInGreaterGraphs(t *testing.T) {
	s := sample.New(82)
	less, full := 0, 0
	for i := range 500 {
		g, q := s.Graph(150), s.Loose()
		for len(q.Arrows) > 2 || len(q.Arrows) == 0 {
			q = s.Loose()
		}
		if i%5 == 0 {
			q = asked(t, "(a)-[*]->(b:L0)<-[*]-(c)")
		}
		bare := q
		bare.Where = nil
		q.Where = []api.Term{s.Where(q)}
		all, some := tried(t, bare, g), tried(t, q, g)
		if some > 0 && some < all {
			less++
		}
		if all > api.MaxRows {
			full++
		}
	}
	if less < 50 || full < 20 {
		t.Errorf("%d have fewer, %d are full", less, full)
	}
}

// A pattern that is read from the right, each arrow turned, stands in the same ways.
func TestReadFromTheRight(t *testing.T) {
	s := sample.New(83)
	ways := 0
	for i := range 2000 {
		g, q := s.Graph(20+i%20), s.Loose()
		q.Where = []api.Term{s.Where(q)}
		back := q
		back.Dots, back.Arrows = slices.Clone(q.Dots), slices.Clone(q.Arrows)
		slices.Reverse(back.Dots)
		slices.Reverse(back.Arrows)
		for k := range back.Arrows {
			back.Arrows[k].Back = !back.Arrows[k].Back
		}
		want, e := All(q, g)
		got, f := All(back, g)
		for _, way := range got {
			slices.Reverse(way[:len(q.Dots)])
			slices.Reverse(way[len(q.Dots):])
		}
		slices.SortFunc(got, slices.Compare)
		if e != f || !equal(got, want) {
			t.Fatalf("%v in %v: %v, %d, from the right %v, %d", q, g, want, e, got, f)
		}
		ways += len(want)
	}
	if ways < 2000 {
		t.Errorf("only %d", ways)
	}
}

// What both terms leave is what `and` of them leaves, in either order.
func TestAndIsBoth(t *testing.T) {
	s := sample.New(84)
	ways := 0
	for i := range 2000 {
		g, q := s.Graph(20+i%20), s.Loose()
		x, y := s.Where(q), s.Where(q)
		of := func(w api.Term) ([][]int, api.Errno) {
			q.Where = []api.Term{w}
			return All(q, g)
		}
		first, e := of(x)
		second, f := of(y)
		if e != api.OK || f != api.OK {
			continue
		}
		var want [][]int
		for _, way := range first {
			if _, found := slices.BinarySearchFunc(second, way, slices.Compare); found {
				want = append(want, way)
			}
		}
		for _, both := range []api.Term{sample.Call("and", x, y), sample.Call("and", y, x)} {
			got, e := of(both)
			if e != api.OK || !equal(got, want) {
				t.Fatalf("%v in %v: %v, %d, want %v", q, g, got, e, want)
			}
			ways += len(got)
		}
	}
	if ways < 2000 {
		t.Errorf("only %d", ways)
	}
}
