package ask

import (
	"strconv"
	"strings"
	"testing"

	"espalier/api"
	"espalier/query"
	"espalier/sample"
	"espalier/value"
)

// read is the value of a text.
func read(text string) api.Value {
	v, _, e := value.Parse(text)
	if e != api.OK {
		panic(text)
	}
	return v
}

// bagOf is the bag of a text, with blanks between: of each row how often, `*`, and the row as a list. It need not be right.
func bagOf(text string) api.Bag {
	var b api.Bag
	for _, s := range strings.Fields(text) {
		times, r, _ := strings.Cut(s, "*")
		n, err := strconv.Atoi(times)
		if err != nil {
			panic(text)
		}
		b = append(b, api.Count{R: read(r).L, N: n})
	}
	return b
}

// wrote is the text of which bagOf makes a bag.
func wrote(b api.Bag) string {
	var l []string
	for _, c := range b {
		l = append(l, strconv.Itoa(c.N)+"*"+key(c.R))
	}
	return strings.Join(l, " ")
}

// key is a text that no other row has.
func key(r api.Row) string {
	text, e := value.Print(api.Value{Kind: api.List, L: r})
	if e != api.OK {
		return "error " + strconv.Itoa(int(e))
	}
	return text
}

// asked is the question of a text.
func asked(t *testing.T, text string) api.Query {
	t.Helper()
	q, at, e := query.Parse(text)
	if e != api.OK {
		t.Fatalf("%s: %d at %d", text, e, at)
	}
	return q
}

// holding is a graph of nodes without edges, numbered from 1 on, each with a property x, and a property k; those that are null it hasn't.
func holding(pairs ...[2]string) api.Graph {
	g := api.Graph{Nodes: sample.Nodes(len(pairs)), Next: len(pairs) + 1}
	for i, p := range pairs {
		for k, name := range []string{"k", "x"} {
			if v := read(p[1-k]); v.Kind != api.Null {
				g.Nodes[i].Props = append(g.Nodes[i].Props, sample.Prop(name, v))
			}
		}
	}
	return g
}

// values is such a graph, of values of x alone.
func values(l ...string) api.Graph {
	var pairs [][2]string
	for _, s := range l {
		pairs = append(pairs, [2]string{s, "null"})
	}
	return holding(pairs...)
}

// tells holds what a question tells, asked as a text and as a question, against the text of a bag.
func tells(t *testing.T, text string, g api.Graph, want string) {
	t.Helper()
	if got, e := Ask(asked(t, text), g); e != api.OK || wrote(got) != want {
		t.Errorf("%s: %s, %d, want %s", text, wrote(got), e, want)
	}
	if got, at, e := Text(text, g); at != 0 || e != api.OK || wrote(got) != want {
		t.Errorf("%s: %s, %d, %d, want %s", text, wrote(got), at, e, want)
	}
}

// fails tells that a question has an error, and nothing beside it.
func fails(t *testing.T, what string, q api.Query, g api.Graph, want api.Errno) {
	t.Helper()
	if got, e := Ask(q, g); got != nil || e != want {
		t.Errorf("%s: %d rows, %d, want %d", what, len(got), e, want)
	}
}
