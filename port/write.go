package port

import (
	"strconv"
	"strings"

	"espalier/api"
	"espalier/value"
)

// writer puts a text together, line by line. A graph that Check takes has too few values for their texts to need much room.
type writer struct {
	out  strings.Builder
	long bool // a value can't be told
}

func (w *writer) graph(g api.Graph) {
	w.line(nil, "next", strconv.Itoa(g.Next))
	for _, n := range g.Nodes {
		words := []string{"node", strconv.Itoa(n.ID)}
		for _, s := range n.Labels {
			words = append(words, ":"+s)
		}
		w.line(n.Props, words...)
	}
	for _, x := range g.Edges {
		w.line(x.Props, "edge", strconv.Itoa(x.ID), strconv.Itoa(x.From), strconv.Itoa(x.To), ":"+x.Type)
	}
}

// line writes words, then properties.
func (w *writer) line(props []api.Prop, words ...string) {
	w.out.WriteString(strings.Join(words, " "))
	for _, p := range props {
		s, e := value.Print(p.Value)
		// Check took the value: nothing else can be wrong with it than its length.
		w.long = w.long || e != api.OK
		w.out.WriteString(" " + p.Name + "=" + s)
	}
	w.out.WriteByte('\n')
}
