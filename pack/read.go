package pack

import "espalier/api"

// torn is what a reader gives up with.
type torn struct{}

// reader takes off from the front what a writer laid there.
type reader struct {
	rest  []byte
	lists int // how many lists are open
}

// begin is where a reader begins, and where its giving up ends.
func begin[T any](all func() T) (out T, whole bool) {
	defer func() {
		p := recover()
		if p == nil {
			return
		}
		if _, ok := p.(torn); !ok {
			panic(p)
		}
	}()
	return all(), true
}

// list reads how many there are, and then these. It gives up where there are more than may be, so that a few bytes can't ask for much room.
func list[T any](r *reader, most int, one func() T) []T {
	n := r.bits()
	if n > uint64(most) {
		panic(torn{})
	}
	var l []T
	for range n {
		l = append(l, one())
	}
	return l
}

// cut takes n bytes off.
func (r *reader) cut(n uint64) []byte {
	if n > uint64(len(r.rest)) {
		panic(torn{})
	}
	piece := r.rest[:n]
	r.rest = r.rest[n:]
	return piece
}

// bits gives up at a number that goes on behind its highest bit.
func (r *reader) bits() uint64 {
	n := uint64(0)
	for low := 0; low < 64; low += 7 {
		c := r.cut(1)[0]
		n |= uint64(c&(1<<7-1)) << low
		if c < 1<<7 {
			return n
		}
	}
	panic(torn{})
}

func (r *reader) number() int {
	n := r.bits()
	return int(n>>1) ^ -int(n&1)
}

func (r *reader) text() string { return string(r.cut(r.bits())) }

func (r *reader) value() api.Value {
	v := api.Value{Kind: int(r.cut(1)[0])}
	switch v.Kind {
	case api.Bool, api.Int:
		v.N = r.number()
	case api.Text:
		v.S = r.text()
	case api.List:
		v.L = r.values()
	}
	return v
}

// values gives up at lists that are too deep: there would be a call within a call for each of them.
func (r *reader) values() []api.Value {
	if r.lists == api.MaxDeep {
		panic(torn{})
	}
	r.lists++
	l := list(r, api.MaxList, r.value)
	r.lists--
	return l
}

func (r *reader) prop() api.Prop { return api.Prop{Name: r.text(), Value: r.value()} }

func (r *reader) node() api.Node {
	return api.Node{
		ID:     r.number(),
		Labels: list(r, api.MaxLabels, r.text),
		Props:  list(r, api.MaxProps, r.prop),
	}
}

func (r *reader) edge() api.Edge {
	return api.Edge{
		ID:    r.number(),
		From:  r.number(),
		To:    r.number(),
		Type:  r.text(),
		Props: list(r, api.MaxProps, r.prop),
	}
}

func (r *reader) graph() api.Graph {
	return api.Graph{
		Next:  r.number(),
		Nodes: list(r, api.MaxNodes, r.node),
		Edges: list(r, api.MaxEdges, r.edge),
	}
}

func (r *reader) ops() []api.Op { return list(r, api.MaxOps, r.op) }

func (r *reader) op() api.Op {
	return api.Op{
		Kind:   r.number(),
		ID:     r.number(),
		From:   r.number(),
		To:     r.number(),
		Name:   r.text(),
		Value:  r.value(),
		Labels: list(r, api.MaxLabels, r.text),
		Props:  list(r, api.MaxProps, r.prop),
	}
}
