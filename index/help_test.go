package index

import (
	"strconv"
	"strings"
	"testing"

	"espalier/api"
	"espalier/sample"
	"espalier/value"
)

// Short names of what these tests say again and again.
var (
	num, str, list, prop, props = sample.Int, sample.Text, sample.List, sample.Prop, sample.Props
	longText, wrongText, town   = sample.LongText, sample.WrongText, sample.Town
)

// written is a value as a text that no other has.
func written(v api.Value) string {
	text, e := value.Print(v)
	if e != api.OK {
		return "error " + strconv.Itoa(int(e))
	}
	return text
}

// ids are numbers as a text, commas between.
func ids(l []int) string {
	var out []string
	for _, id := range l {
		out = append(out, strconv.Itoa(id))
	}
	return strings.Join(out, ",")
}

// told are entries as a text: `label:ids` or `label.prop=value:ids`, blanks between.
func told(l []api.Entry) string {
	var out []string
	for _, x := range l {
		text := x.Label
		if x.Prop != "" || x.V.Kind != api.Null {
			text += "." + x.Prop + "=" + written(x.V)
		}
		out = append(out, text+":"+ids(x.IDs))
	}
	return strings.Join(out, " ")
}

// entriesOf are those of a graph that must be right.
func entriesOf(t *testing.T, g api.Graph) []api.Entry {
	t.Helper()
	l, e := Of(g)
	if e != api.OK {
		t.Fatalf("%v: %d", g, e)
	}
	return l
}

// node is one with that number, labels with blanks between, and properties.
func node(id int, labels string, l ...api.Prop) api.Node {
	return api.Node{ID: id, Labels: strings.Fields(labels), Props: l}
}

// graphOf has these nodes alone.
func graphOf(l ...api.Node) api.Graph {
	g := api.Graph{Nodes: l, Next: 1}
	for _, n := range l {
		g.Next = n.ID + 1
	}
	return g
}
