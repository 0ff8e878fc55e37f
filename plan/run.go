package plan

import (
	"slices"

	"espalier/api"
	"espalier/ask"
	"espalier/graph"
	"espalier/match"
	"espalier/seek"
	"espalier/term"
)

// Run is what a question tells of the ways that a plan finds in a graph.
func Run(q api.Query, p api.Plan, g api.Graph) (api.Bag, api.Errno) {
	dots, e := Check(q, p)
	if e != api.OK {
		return nil, e
	}
	if dots < len(q.Dots) {
		return nil, api.ErrForm
	}
	if e := graph.Check(g); e != api.OK {
		return nil, e
	}
	// When something is asked makes no difference to what is found at last, but all to how much is tried in vain.
	ways := find(q, asking(q, true, asked(p)), g)
	if len(ways) > api.MaxRows {
		return nil, api.ErrFull
	}
	return ask.Told(q, g, ways)
}

// asked are the terms of all Sifts of a plan, the innermost first.
func asked(p api.Plan) []api.Term {
	var out []api.Term
	for ; p.Kind != api.Scan; p = p.From[0] {
		if p.Kind == api.Sift {
			out = append(out, p.Where)
		}
	}
	slices.Reverse(out)
	return out
}

// find are the ways that a plan finds, in no order that is told, but no more of them than one above api.MaxRows.
func find(q api.Query, p api.Plan, g api.Graph) [][]int {
	f := &finder{q: q, g: g, calls: term.Calls(), names: term.Names{}, way: make([]int, len(q.Dots)+len(q.Arrows))}
	f.each(p, func() bool {
		f.ways = append(f.ways, slices.Clone(f.way))
		return len(f.ways) <= api.MaxRows
	})
	return f.ways
}

// finder does what a plan says, in a graph that is right. A spot is a place in a way: those of the dots, then those of the arrows.
type finder struct {
	q     api.Query
	g     api.Graph
	calls term.Book
	ways  [][]int // that are found

	// The way that is being tried. What was laid for the one tried before is written over, so nothing needs to be taken back.
	way   []int
	names term.Names
}

// visitor goes on with what has been laid so far, and tells whether it asks for more.
type visitor func() bool

// each visits what a plan finds, until visit asks for no more. From the outside in, each part of the plan becomes the visitor of what the part within it finds.
func (f *finder) each(p api.Plan, visit visitor) {
	later := map[string]int{} // the names that are asked for by what is around
	for ; p.Kind != api.Scan; p = p.From[0] {
		if p.Kind == api.Sift {
			visit = f.sift(p.Where, visit)
			for _, name := range term.Free(p.Where) {
				later[name]++
			}
			continue
		}
		visit = f.hop(p.N, visit)
		// Dots with this name ahead of it must have the same node.
		later[f.q.Dots[p.N+1].Name]++
		if spots, all := f.needed(p.N, later); !all {
			visit = f.unlessInVain(spots, visit)
		}
	}
	f.scan(visit)
}

// scan goes on with all nodes that the first dot may have.
func (f *finder) scan(visit visitor) {
	for _, n := range f.g.Nodes {
		if !match.Takes(f.q.Dots[0], n) {
			continue
		}
		f.layDot(0, term.OfNode(n))
		if !visit() {
			return
		}
	}
}

// sift goes on where a term is true.
func (f *finder) sift(t api.Term, visit visitor) visitor {
	return func() bool {
		v := f.calls.Value(t, f.names)
		return v.Kind != api.Bool || v.N != 1 || visit()
	}
}

// step along an arrow: the edge, and the node of its right dot.
type step struct{ edge, node term.Thing }

// hop goes on along an arrow, from the node of its left dot.
func (f *finder) hop(arrow int, visit visitor) visitor {
	steps, dot := f.steps(arrow), arrow+1
	name := f.q.Dots[dot].Name
	twin := slices.IndexFunc(f.q.Dots[:dot], func(d api.Dot) bool { return name != "" && name == d.Name })
	return func() bool {
		for _, x := range steps[f.way[arrow]] {
			if twin >= 0 && f.way[twin] != x.node.ID {
				continue
			}
			f.layArrow(arrow, x.edge)
			f.layDot(dot, x.node)
			if !visit() {
				return false
			}
		}
		return true
	}
}

// steps are those along an arrow, by the node that its left dot has.
func (f *finder) steps(arrow int) map[int][]step {
	out := map[int][]step{}
	match.Along(f.q.Arrows[arrow], f.g, func(left, right int, edge api.Edge) {
		at, _ := seek.Node(f.g.Nodes, right)
		if n := f.g.Nodes[at]; match.Takes(f.q.Dots[arrow+1], n) {
			out[left] = append(out[left], step{term.OfEdge(edge), term.OfNode(n)})
		}
	})
	return out
}

func (f *finder) layDot(dot int, x term.Thing) { f.lay(dot, f.q.Dots[dot].Name, x) }

func (f *finder) layArrow(arrow int, x term.Thing) {
	f.lay(len(f.q.Dots)+arrow, f.q.Arrows[arrow].Name, x)
}

func (f *finder) lay(spot int, name string, x term.Thing) {
	f.way[spot] = x.ID
	if name != "" {
		f.names[name] = x
	}
}
