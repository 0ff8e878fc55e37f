package txn

import (
	"slices"
	"testing"

	"espalier/api"
	"espalier/graph"
	"espalier/sample"
)

func TestTurnOfBetweenIsTheOther(t *testing.T) {
	s := sample.New(4)
	for i := range 2000 {
		a, b := s.Graph(i%60), s.Graph(i%50)
		if i%2 == 0 {
			b, _, _, _ = Apply(a, s.Ops(a, 8))
		}
		if graph.Check(b) != api.OK {
			b = a
		}
		d, e := Between(a, b)
		if e != api.OK {
			t.Fatal(e)
		}
		if got, e := Turn(a, d); !alike(got, b) || e != api.OK {
			t.Errorf("%v, %d, want %v", got, e, b)
		}
		if got, e := Turn(b, Back(d)); !alike(got, a) || e != api.OK {
			t.Errorf("back: %v, %d, want %v", got, e, a)
		}
		back, e := Between(b, a)
		if !alike(back, Back(d)) || e != api.OK {
			t.Errorf("between the other way: %v, %d, want %v", back, e, Back(d))
		}
		if !rise(d.Gone, d.New, d.GoneEdges, d.NewEdges) {
			t.Errorf("doesn't rise: %v", d)
		}
	}
}

func rise(gone, more []api.Node, goneEdges, moreEdges []api.Edge) bool {
	byNode := func(a, b api.Node) int { return a.ID - b.ID }
	byEdge := func(a, b api.Edge) int { return a.ID - b.ID }
	return slices.IsSortedFunc(gone, byNode) && slices.IsSortedFunc(more, byNode) && slices.IsSortedFunc(goneEdges, byEdge) && slices.IsSortedFunc(moreEdges, byEdge)
}

// told are operations with the numbers of what those ahead have added in place of those below 0, and those below 0 moved up: so they mean the same behind them.
func told(l []api.Op, made []int) []api.Op {
	meant := func(id int) int {
		switch {
		case id < 0 && -id <= len(made):
			return made[-id-1]
		case id < 0:
			return id + len(made)
		}
		return id
	}
	out := slices.Clone(l)
	for i, o := range out {
		out[i].ID, out[i].From, out[i].To = meant(o.ID), meant(o.From), meant(o.To)
	}
	return out
}

func TestOperationsInTwoParts(t *testing.T) {
	s := sample.New(5)
	went, failed := 0, 0
	for i := range 4000 {
		g := s.Graph(i % 40)
		if i%9 == 0 {
			g.Next = graph.MaxNext - 3
		}
		l := s.Ops(g, 12)
		out, made, at, e := Apply(g, l)
		if e == api.OK && (graph.Check(out) != api.OK || at != 0 || out.Next != g.Next+len(made)) {
			t.Errorf("%v, at %d, made %v", out, at, made)
		}
		for cut := range len(l) + 1 {
			one, first, where, f := Apply(g, l[:cut])
			if e != api.OK && cut > at {
				if !alike(one, api.Graph{}) || first != nil || where != at || f != e {
					t.Errorf("the first %d: %v, %v, %d, %d, want %d, %d", cut, one, first, where, f, at, e)
				}
				continue
			}
			if f != api.OK {
				t.Fatalf("the first %d: %d, but all: %d at %d", cut, f, e, at)
			}
			two, second, where, f := Apply(one, told(l[cut:], first))
			if e != api.OK {
				where += cut
			} else {
				second = append(first, second...)
			}
			if !alike(two, out) || !slices.Equal(second, made) || where != at || f != e {
				t.Errorf("in two parts: %v, %v, %d, %d, want %v, %v, %d, %d", two, second, where, f, out, made, at, e)
			}
		}
		if e == api.OK {
			went++
		} else {
			failed++
		}
	}
	if went < 1000 || failed < 500 {
		t.Errorf("%d went, %d failed", went, failed)
	}
}

// An operation changes nothing but what it names.
func TestAnOperationChangesOneThing(t *testing.T) {
	s := sample.New(6)
	seen := map[int]int{}
	for i := range 15000 {
		g := s.Graph(i % 40)
		l := s.Ops(g, 1)
		out, made, _, e := Apply(g, l)
		if e != api.OK || len(l) == 0 {
			continue
		}
		d, e := Between(g, out)
		if e != api.OK {
			t.Fatal(e)
		}
		seen[l[0].Kind]++
		want := l[0].ID
		if len(made) > 0 {
			want = made[0]
		}
		all := []int{}
		for _, n := range slices.Concat(d.Gone, d.New) {
			all = append(all, n.ID)
		}
		for _, x := range slices.Concat(d.GoneEdges, d.NewEdges) {
			all = append(all, x.ID)
		}
		if slices.ContainsFunc(all, func(id int) bool { return id != want }) || len(all) > 2 {
			t.Errorf("%v: %v", l[0], d)
		}
	}
	for kind := api.AddNode; kind <= api.Untag; kind++ {
		if seen[kind] < 50 {
			t.Errorf("kind %d: %d", kind, seen[kind])
		}
	}
}
