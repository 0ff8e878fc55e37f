package sample

import (
	"slices"
	"strconv"

	"espalier/api"
)

// Query is a question that chapter 6's Check takes. Its labels, types and properties are those of Graph; dots are named a to c, arrows e0 to e3, items n0 to n4, and terms are at most so deep.
func (s *Source) Query(deep int) api.Query {
	q := api.Query{Dots: []api.Dot{s.dot()}, Distinct: s.Below(4) == 0}
	for i := range s.Below(api.MaxSteps + 1) {
		q.Arrows = append(q.Arrows, s.arrow("e"+strconv.Itoa(i)))
		q.Dots = append(q.Dots, s.dot())
	}
	nodes, edges := namesOf(q)
	if s.Below(2) == 0 {
		q.Where = []api.Term{s.Term(nodes, edges, 1+s.Below(deep))}
	}
	for i := range 1 + s.Below(api.MaxItems) {
		agg := []string{"", "", "", "", "count", "sum", "min", "max"}[s.Below(8)]
		q.Items = append(q.Items, api.Item{Name: "n" + strconv.Itoa(i), Agg: agg, T: s.Term(nodes, edges, 1+s.Below(deep))})
	}
	return q
}

// Loose is a question of which most dots have any label and many arrows any type, so that it stands in more ways.
func (s *Source) Loose() api.Query {
	q := s.Query(3)
	for i := range q.Dots {
		if s.Below(4) > 0 {
			q.Dots[i].Label = ""
		}
	}
	for i := range q.Arrows {
		if s.Below(2) > 0 {
			q.Arrows[i].Type = ""
		}
	}
	return q
}

// Where is a term that asks for what has a name in a pattern, mostly by several of them, and is true now and then. One more around it isn't too deep.
func (s *Source) Where(q api.Query) api.Term {
	if nodes, edges := namesOf(q); len(nodes)+len(edges) == 0 {
		return Const(api.Value{Kind: api.Bool, N: s.Below(4) % 2})
	}
	if s.Below(5) == 0 {
		return Call("and", s.held(q), Call("not", s.held(q)))
	}
	out := s.held(q)
	for range s.Below(3) {
		out = Call(s.one("and", "and", "or"), out, s.held(q))
	}
	return out
}

// held is a term that holds something of a pattern with names against something else.
func (s *Source) held(q api.Query) api.Term {
	nodes, edges := namesOf(q)
	all := slices.Concat(nodes, edges)
	slices.Sort(all)
	all = slices.Compact(all)
	plain := func() api.Term {
		name := s.one(all...)
		switch k := s.Below(8); {
		case k < 2:
			return Field(name, "p"+s.one("0", "1", "2", "3"))
		case k == 3 && slices.Contains(edges, name):
			return Call("type", Var(name))
		case k == 4:
			return Const(Int(s.Below(9)))
		case k == 5:
			return Call("+", Var(name), Var(s.one(all...)))
		}
		return Var(name)
	}
	if sign := s.one("<", "<=", "=", "<", "<=", "null"); sign != "null" {
		return Call(sign, plain(), plain())
	}
	return Call("null", plain())
}

func (s *Source) dot() api.Dot {
	return api.Dot{Name: s.one("", "a", "b", "c"), Label: s.one("", "", "L0", "L1", "L2", "L3")}
}

func (s *Source) arrow(name string) api.Arrow {
	x := api.Arrow{Name: s.one("", name), Type: s.one("", "T0", "T1", "T2"), Back: s.Below(2) == 0}
	if x.Name == "" {
		x.Many = s.Below(2) == 0
	}
	return x
}

func (s *Source) one(l ...string) string { return l[s.Below(len(l))] }

// namesOf are those of the dots and those of the arrows.
func namesOf(q api.Query) (nodes, edges []string) {
	for _, d := range q.Dots {
		if d.Name != "" {
			nodes = append(nodes, d.Name)
		}
	}
	for _, x := range q.Arrows {
		if x.Name != "" {
			edges = append(edges, x.Name)
		}
	}
	return nodes, edges
}
