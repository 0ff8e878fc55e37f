package match

import (
	"math/bits"

	"espalier/api"
	"espalier/graph"
	"espalier/reach"
	"espalier/seek"
	"espalier/term"
)

// set of nodes: a bit for each place in the graph's list. There are bits enough: api.MaxNodes is below 64.
type set uint64

// all visits the places that are in a set, rising.
func (s set) all(yield func(int) bool) {
	for ; s != 0; s &= s - 1 {
		if !yield(bits.TrailingZeros64(uint64(s))) {
			return
		}
	}
}

// link of two dots: of each node that the one may have, the nodes that the other may have then.
type link [api.MaxNodes]set

// through links two dots by one between them.
func through(a, b link) link {
	var out link
	for i, s := range a {
		for k := range s.all {
			out[i] |= b[k]
		}
	}
	return out
}

// turned is a link seen from the other dot.
func turned(l link) link {
	var out link
	for i, s := range l {
		for k := range s.all {
			out[k] |= 1 << i
		}
	}
	return out
}

// alike is what of a link is left if both dots have one node.
func alike(l link) link {
	for i := range l {
		l[i] &= 1 << i
	}
	return l
}

// edges that an arrow may have, by the places of its left and its right dot's nodes.
type edges map[[2]int][]api.Edge

func (s *search) edgesOf(x api.Arrow) edges {
	out := edges{}
	own := s.asking(x.Name)
	Along(x, s.g, func(left, right int, edge api.Edge) {
		if s.holds(own, term.Names{x.Name: term.OfEdge(edge)}) {
			from, _ := seek.Node(s.g.Nodes, left)
			to, _ := seek.Node(s.g.Nodes, right)
			ends := [2]int{from, to}
			out[ends] = append(out[ends], edge)
		}
	})
	return out
}

// Along visits what an arrow may have in a graph that is right: the node of its left dot, that of its right one, and the edge.
func Along(x api.Arrow, g api.Graph, visit func(left, right int, edge api.Edge)) {
	tell := func(from, to int, edge api.Edge) {
		if x.Back {
			from, to = to, from
		}
		visit(from, to, edge)
	}
	if x.Many {
		// A node is reached once, by no edge that is told: one without a number stands for it.
		pairs, _ := reach.All(g, x.Type)
		for _, p := range pairs {
			tell(p[0], p[1], api.Edge{})
		}
		return
	}
	for _, edge := range g.Edges {
		if x.Type == "" || x.Type == edge.Type {
			tell(edge.From, edge.To, edge)
		}
	}
}

// Takes tells whether a dot may have a node, by its label.
func Takes(d api.Dot, n api.Node) bool { return graph.HasLabel(n, d.Label) }

// toItself links a dot to itself: each node that it may have, whatever the others have.
func (s *search) toItself(d api.Dot) link {
	var out link
	own := s.asking(d.Name)
	for i, n := range s.g.Nodes {
		if Takes(d, n) && s.holds(own, term.Names{d.Name: term.OfNode(n)}) {
			out[i] = 1 << i
		}
	}
	return out
}

// along links an arrow's dots.
func (e edges) along() link {
	var out link
	for ends := range e {
		out[ends[0]] |= 1 << ends[1]
	}
	return out
}

// linkDots links each two dots, by all that lies between them.
func (s *search) linkDots() {
	for k, d := range s.q.Dots {
		s.links[k][k] = s.toItself(d)
		if k > 0 {
			s.linkAhead(k)
		}
	}
	for k := range s.q.Dots {
		s.apt[k] = s.aptFor(k)
	}
}

// linkAhead links a dot to all ahead of it, when those are linked.
func (s *search) linkAhead(k int) {
	step := through(s.edges[k-1].along(), s.links[k][k])
	name := s.q.Dots[k].Name
	for i := range k {
		l := through(s.links[i][k-1], step)
		if name != "" && name == s.q.Dots[i].Name {
			l = alike(l)
		}
		s.links[i][k], s.links[k][i] = l, turned(l)
	}
}

func (s *search) aptFor(dot int) set {
	var out set
	for at := range s.g.Nodes {
		apt := true
		for other := range s.q.Dots {
			apt = apt && s.links[dot][other][at] != 0
		}
		if apt {
			out |= 1 << at
		}
	}
	return out
}
