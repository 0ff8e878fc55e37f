package sample

import (
	"strconv"

	"espalier/api"
)

// Ops are at most so many operations, of which most go on g. They name its nodes and edges, what they add themselves, and now and then nobody.
func (s *Source) Ops(g api.Graph, most int) []api.Op {
	var l []api.Op
	nodes, edges := []int{}, []int{}
	for _, n := range g.Nodes {
		nodes = append(nodes, n.ID)
	}
	for _, x := range g.Edges {
		edges = append(edges, x.ID)
	}
	made := 0
	for range s.Below(most + 1) {
		o := s.op(g, nodes, edges)
		switch o.Kind {
		case api.AddNode:
			made++
			nodes = append(nodes, -made)
		case api.AddEdge:
			made++
			edges = append(edges, -made)
		}
		l = append(l, o)
	}
	return l
}

func (s *Source) op(g api.Graph, nodes, edges []int) api.Op {
	number := func(n int) string { return strconv.Itoa(s.Below(n)) }
	switch k := s.Below(16); {
	case k < 4:
		return api.Op{Kind: api.AddNode, Labels: s.names("L", 4), Props: s.Props()}
	case k < 7 && len(nodes) > 0:
		return api.Op{Kind: api.AddEdge, From: s.id(nodes, g), To: s.id(nodes, g), Name: "T" + number(3), Props: s.Props()}
	case k < 8:
		return api.Op{Kind: api.DropNode, ID: s.id(nodes, g)}
	case k < 10:
		return api.Op{Kind: api.DropEdge, ID: s.id(edges, g)}
	case k < 12:
		return api.Op{Kind: api.Set, ID: s.id(nodes, g), Name: "p" + number(8), Value: s.Value(2)}
	case k < 13:
		return api.Op{Kind: api.Set, ID: s.id(edges, g), Name: "p" + number(8), Value: s.Value(2)}
	case k < 14:
		return api.Op{Kind: api.Untag, ID: s.id(nodes, g), Name: "L" + number(6)}
	}
	return api.Op{Kind: api.Tag, ID: s.id(nodes, g), Name: "L" + number(6)}
}

// id is mostly one of l.
func (s *Source) id(l []int, g api.Graph) int {
	if len(l) == 0 || s.Below(30) == 0 {
		return s.Below(g.Next+4) - 2
	}
	return l[s.Below(len(l))]
}
