package sample

import (
	"strconv"

	"espalier/api"
)

// Query is a question that chapter 6's Check takes. Its labels, types and properties are those of Graph; dots are named a to c, arrows e0 to e3, items n0 to n4, and terms are at most so deep.
func (s *Source) Query(deep int) api.Query {
	q := api.Query{Dots: []api.Dot{s.dot()}, Distinct: s.Below(4) == 0}
	for i := range s.Below(api.MaxSteps + 1) {
		q.Arrows = append(q.Arrows, s.arrow("e"+strconv.Itoa(i)))
		q.Dots = append(q.Dots, s.dot())
	}
	nodes, edges := namesOf(q)
	if s.Below(2) == 0 {
		q.Where = []api.Term{s.Term(nodes, edges, 1+s.Below(deep))}
	}
	for i := range 1 + s.Below(api.MaxItems) {
		agg := []string{"", "", "", "", "count", "sum", "min", "max"}[s.Below(8)]
		q.Items = append(q.Items, api.Item{Name: "n" + strconv.Itoa(i), Agg: agg, T: s.Term(nodes, edges, 1+s.Below(deep))})
	}
	return q
}

func (s *Source) dot() api.Dot {
	return api.Dot{Name: s.one("", "a", "b", "c"), Label: s.one("", "", "L0", "L1", "L2", "L3")}
}

func (s *Source) arrow(name string) api.Arrow {
	x := api.Arrow{Name: s.one("", name), Type: s.one("", "T0", "T1", "T2"), Back: s.Below(2) == 0}
	if x.Name == "" {
		x.Many = s.Below(2) == 0
	}
	return x
}

func (s *Source) one(l ...string) string { return l[s.Below(len(l))] }

// namesOf are those of the dots and those of the arrows.
func namesOf(q api.Query) (nodes, edges []string) {
	for _, d := range q.Dots {
		if d.Name != "" {
			nodes = append(nodes, d.Name)
		}
	}
	for _, x := range q.Arrows {
		if x.Name != "" {
			edges = append(edges, x.Name)
		}
	}
	return nodes, edges
}
