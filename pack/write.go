package pack

import "espalier/api"

// writer lays bytes one behind the other: each thing tells by its first bytes where it ends.
type writer struct{ out []byte }

// each writes how many l has, and then these.
func each[T any](w *writer, l []T, one func(T)) {
	w.bits(uint64(len(l)))
	for _, x := range l {
		one(x)
	}
}

// bits writes seven bits in each byte, the lowest first; the highest bit says that there are more: most numbers are small.
func (w *writer) bits(n uint64) {
	for n >= 1<<7 {
		w.out = append(w.out, byte(n)|1<<7)
		n >>= 7
	}
	w.out = append(w.out, byte(n))
}

// number has the sign as its lowest bit, so that those a little below 0 are small, too.
func (w *writer) number(n int) { w.bits(uint64(n)<<1 ^ uint64(n>>63)) }

func (w *writer) text(s string) {
	w.bits(uint64(len(s)))
	w.out = append(w.out, s...)
}

// value isn't what chapter 2 tells: that has no bytes of values that take more than MaxDisk of them.
func (w *writer) value(v api.Value) {
	w.out = append(w.out, byte(v.Kind))
	switch v.Kind {
	case api.Bool, api.Int:
		w.number(v.N)
	case api.Text:
		w.text(v.S)
	case api.List:
		each(w, v.L, w.value)
	}
}

func (w *writer) prop(p api.Prop) {
	w.text(p.Name)
	w.value(p.Value)
}

func (w *writer) node(n api.Node) {
	w.number(n.ID)
	each(w, n.Labels, w.text)
	each(w, n.Props, w.prop)
}

func (w *writer) edge(x api.Edge) {
	w.number(x.ID)
	w.number(x.From)
	w.number(x.To)
	w.text(x.Type)
	each(w, x.Props, w.prop)
}

func (w *writer) graph(g api.Graph) {
	w.number(g.Next)
	each(w, g.Nodes, w.node)
	each(w, g.Edges, w.edge)
}

func (w *writer) op(o api.Op) {
	w.number(o.Kind)
	w.number(o.ID)
	w.number(o.From)
	w.number(o.To)
	w.text(o.Name)
	w.value(o.Value)
	each(w, o.Labels, w.text)
	each(w, o.Props, w.prop)
}
