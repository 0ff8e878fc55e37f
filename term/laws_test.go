package term

import (
	"slices"
	"testing"

	"espalier/api"
	"espalier/graph"
	"espalier/sample"
	"espalier/value"
)

// place is a graph, and names for some of its nodes (a, b) and edges (e, f).
type place struct {
	g            api.Graph
	nodes, edges []string
	ids          []int
}

func somewhere(s *sample.Source) place {
	p := place{g: s.Graph(20)}
	for _, name := range []string{"a", "b"} {
		if n := len(p.g.Nodes); n > 0 {
			p.nodes, p.ids = append(p.nodes, name), append(p.ids, p.g.Nodes[s.Below(n)].ID)
		}
	}
	for _, name := range []string{"e", "f"} {
		if n := len(p.g.Edges); n > 0 {
			p.edges, p.ids = append(p.edges, name), append(p.ids, p.g.Edges[s.Below(n)].ID)
		}
	}
	return p
}

func (p place) names() []string { return slices.Concat(p.nodes, p.edges) }

// eval is the value of a term, which must be right there.
func (p place) eval(t *testing.T, x api.Term) api.Value {
	t.Helper()
	v, e := Eval(p.g, p.names(), p.ids, x)
	if e != api.OK {
		t.Fatalf("%v: %d", x, e)
	}
	if e := value.Check(v); e != api.OK {
		t.Fatalf("%v: %v: %d", x, v, e)
	}
	return v
}

// spread does something with many places, and two terms in each.
func spread(t *testing.T, deep int, do func(p place, x, y api.Term)) {
	t.Helper()
	s := sample.New(5)
	for range 3000 {
		p := somewhere(s)
		do(p, s.Term(p.nodes, p.edges, deep), s.Term(p.nodes, p.edges, deep))
	}
}

func TestOneTurnedIsTheOtherTurned(t *testing.T) {
	not := func(x api.Term) api.Term { return apply("not", x) }
	met := map[int]int{}
	s := sample.New(7)
	// Most samples are no Bools.
	mixed := func(x api.Term) api.Term {
		return []api.Term{constant(no), constant(yes), apply("null", x), x}[s.Below(4)]
	}
	spread(t, 3, func(p place, x, y api.Term) {
		x, y = mixed(x), mixed(y)
		a, b := p.eval(t, not(apply("or", x, y))), p.eval(t, apply("and", not(x), not(y)))
		if !alike(a, b) {
			t.Errorf("or of %v, %v: %v, %v", x, y, a, b)
		}
		met[a.Kind+a.N]++
		a, b = p.eval(t, not(apply("and", x, y))), p.eval(t, apply("or", not(x), not(y)))
		if !alike(a, b) {
			t.Errorf("and of %v, %v: %v, %v", x, y, a, b)
		}
	})
	if met[0] < 50 || met[1] < 50 || met[2] < 50 {
		t.Errorf("one of Null, false, true is seldom: %v", met)
	}
}

func TestCoalesceIsNullJustIfAllAre(t *testing.T) {
	spread(t, 4, func(p place, x, y api.Term) {
		both := apply("coalesce", x, y)
		all := p.eval(t, x).Kind == api.Null && p.eval(t, y).Kind == api.Null
		if got := p.eval(t, both); (got.Kind == api.Null) != all {
			t.Errorf("%v, %v: %v", x, y, got)
		}
		if got, want := p.eval(t, apply("null", both)), p.eval(t, apply("and", apply("null", x), apply("null", y))); !alike(got, want) {
			t.Errorf("%v, %v: %v, %v", x, y, got, want)
		}
	})
}

func TestInIsOrOfSame(t *testing.T) {
	s := sample.New(6)
	spread(t, 3, func(p place, x, y api.Term) {
		z := s.Term(p.nodes, p.edges, 3)
		same := func(y api.Term) api.Term { return apply("=", x, y) }
		got := p.eval(t, apply("in", x, apply("list", y, z)))
		want := p.eval(t, apply("or", same(y), same(z)))
		if !alike(got, want) {
			t.Errorf("%v in %v, %v: %v, %v", x, y, z, got, want)
		}
		if got, want := p.eval(t, apply("in", x, apply("list", y))), p.eval(t, same(y)); !alike(got, want) {
			t.Errorf("%v in %v: %v, %v", x, y, got, want)
		}
	})
}

// What a call says hangs on the values of its terms alone.
func TestCallsOfValues(t *testing.T) {
	two := []string{"+", "-", "*", "=", "<", "<=", "or", "and", "in", "list", "coalesce"}
	one := []string{"not", "null", "size", "head", "list", "coalesce"}
	s := sample.New(8)
	spread(t, 2, func(p place, x, y api.Term) {
		v, w := p.eval(t, x), p.eval(t, y)
		c := two[s.Below(len(two))]
		if got, want := p.eval(t, apply(c, x, y)), p.eval(t, of(c, v, w)); !alike(got, want) {
			t.Errorf("%s of %v, %v: %v, %v", c, x, y, got, want)
		}
		c = one[s.Below(len(one))]
		if got, want := p.eval(t, apply(c, x)), p.eval(t, of(c, v)); !alike(got, want) {
			t.Errorf("%s of %v: %v, %v", c, x, got, want)
		}
	})
}

// A name that a term hasn't makes no difference; one that it has must be bound.
func TestFreeNamesAreThoseThatMustBeBound(t *testing.T) {
	short := 0
	spread(t, 4, func(p place, x, _ api.Term) {
		free := Free(x)
		if !slices.IsSorted(free) || len(slices.Compact(slices.Clone(free))) != len(free) {
			t.Errorf("%v: %q", x, free)
		}
		want := p.eval(t, x)
		for i, name := range p.names() {
			names, ids := slices.Delete(p.names(), i, i+1), slices.Delete(slices.Clone(p.ids), i, i+1)
			got, e := Eval(p.g, names, ids, x)
			if slices.Contains(free, name) {
				short++
				if e != api.ErrWho {
					t.Errorf("%v without %s: %v, %d", x, name, got, e)
				}
			} else if e != api.OK || !alike(got, want) {
				t.Errorf("%v without %s: %v, %d, want %v", x, name, got, e, want)
			}
		}
	})
	if short < 500 {
		t.Errorf("names are seldom: %d", short)
	}
}

func TestFieldsAreProperties(t *testing.T) {
	s := sample.New(9)
	for range 1000 {
		p := somewhere(s)
		for i, name := range p.names() {
			for _, k := range []string{"p0", "p1", "p2", "p3", "p4"} {
				want, e := graph.Prop(p.g, p.ids[i], k)
				if got := p.eval(t, field(name, k)); e != api.OK || !alike(got, want) {
					t.Errorf("%s.%s: %v, want %v, %d", name, k, got, want, e)
				}
			}
		}
	}
}
