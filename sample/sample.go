// Package sample makes values, graphs, operations, terms, questions, bags of rows, plans, guests, grants and requests for the tests of the other packages: no chance is in it, the same seed makes the same ones.
package sample

import (
	"strconv"

	"espalier/api"
)

// Source is what samples are made of: each number by a rule from the one ahead.
type Source struct{ state uint64 }

// New is a source of its own for each seed.
func New(seed int) *Source { return &Source{uint64(seed)} }

// next is a step of the rule that is known as SplitMix64.
func (s *Source) next() uint64 {
	s.state += 0x9E3779B97F4A7C15
	z := s.state
	z = (z ^ z>>30) * 0xBF58476D1CE4E5B9
	z = (z ^ z>>27) * 0x94D049BB133111EB
	return z ^ z>>31
}

// Below is a number from 0 to n-1; 0 of an n below 1.
func (s *Source) Below(n int) int {
	if n < 1 {
		return 0
	}
	return int(s.next() % uint64(n))
}

// Value is one that chapter 1's Check takes, of at most so many lists within lists. There are few of them, so that the same ones come again.
func (s *Source) Value(lists int) api.Value {
	switch k := s.Below(5); {
	case k == api.Bool:
		return api.Value{Kind: k, N: s.Below(2)}
	case k == api.Int:
		return api.Value{Kind: k, N: s.Below(7) - 3}
	case k == api.Text:
		return api.Value{Kind: k, S: "it's"[:s.Below(5)]}
	case k == api.List && lists > 0:
		v := api.Value{Kind: k}
		for range s.Below(4) {
			v.L = append(v.L, s.Value(lists-1))
		}
		return v
	}
	return api.Value{}
}

// names are some of those with that letter ahead, rising: at most so many.
func (s *Source) names(letter string, most int) []string {
	var l []string
	for i := range most {
		if s.Below(3) == 0 {
			l = append(l, letter+strconv.Itoa(i))
		}
	}
	return l
}

// Props are properties p0 to p3 of a node or an edge.
func (s *Source) Props() []api.Prop {
	var l []api.Prop
	for _, name := range s.names("p", 4) {
		if v := s.Value(2); v.Kind != api.Null {
			l = append(l, api.Prop{Name: name, Value: v})
		}
	}
	return l
}

// Graph is one that chapter 3's Check takes, of at most so many nodes and edges together: labels L0 to L3, types T0 to T2.
func (s *Source) Graph(most int) api.Graph {
	g := api.Graph{Next: 1}
	for range s.Below(most + 1) {
		g.Next += s.Below(3)
		if s.Below(5) < 2 {
			g.Nodes = s.node(g.Nodes, g.Next)
		} else {
			g.Edges = s.edge(g.Edges, g.Next)
		}
		g.Next++
	}
	g.Next += s.Below(3)
	s.join(&g)
	return g
}

func (s *Source) node(l []api.Node, id int) []api.Node {
	if len(l) == api.MaxNodes {
		return l
	}
	return append(l, api.Node{ID: id, Labels: s.names("L", 4), Props: s.Props()})
}

func (s *Source) edge(l []api.Edge, id int) []api.Edge {
	if len(l) == api.MaxEdges {
		return l
	}
	return append(l, api.Edge{ID: id, Type: "T" + strconv.Itoa(s.Below(3)), Props: s.Props()})
}

// join chooses the ends of edges when all nodes are known: some are to have greater numbers than the edge.
func (s *Source) join(g *api.Graph) {
	if len(g.Nodes) == 0 {
		g.Edges = nil
	}
	for i := range g.Edges {
		g.Edges[i].From = g.Nodes[s.Below(len(g.Nodes))].ID
		g.Edges[i].To = g.Nodes[s.Below(len(g.Nodes))].ID
	}
}
