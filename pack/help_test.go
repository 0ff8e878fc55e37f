package pack

import (
	"fmt"
	"strings"
	"testing"

	"espalier/api"
	"espalier/fresh"
	"espalier/sample"
)

// Short names of what these tests say again and again.
var (
	num, str, lot, prop, props = sample.Int, sample.Text, sample.List, sample.Prop, sample.Props
	longText, wrongText, town  = sample.LongText, sample.WrongText, sample.Town
	nodes, loops               = sample.Nodes, sample.Loops
	names, numbered            = sample.Names, sample.Numbered
	null                       = api.Value{}
)

func letters(n int) string { return strings.Repeat("a", n) }

// nest is v within so many lists.
func nest(v api.Value, lists int) api.Value {
	for range lists {
		v = lot(v)
	}
	return v
}

// toldGraph is a graph as a text that no other has: lists that have nothing in them are the same.
func toldGraph(g api.Graph) string { return fmt.Sprintf("%#v", fresh.Graph(g)) }

func toldOps(l []api.Op) string {
	var out []string
	for _, o := range l {
		// A node's lists are those of an operation.
		n := fresh.Node(api.Node{Labels: o.Labels, Props: o.Props})
		o.Labels, o.Props, o.Value = n.Labels, n.Props, fresh.Value(o.Value)
		out = append(out, fmt.Sprintf("%#v", o))
	}
	return strings.Join(out, "; ")
}

// graphBytes are those of a graph that must be right.
func graphBytes(t *testing.T, what string, g api.Graph) string {
	t.Helper()
	b, e := Graph(g)
	if e != api.OK {
		t.Fatalf("%s: %d", what, e)
	}
	return b
}

func opsBytes(t *testing.T, what string, l []api.Op) string {
	t.Helper()
	b, e := Ops(l)
	if e != api.OK {
		t.Fatalf("%s: %d", what, e)
	}
	return b
}

// graphs are some that differ, each by a little.
func graphs() map[string]api.Graph {
	one := func(p ...api.Prop) api.Graph {
		return api.Graph{Nodes: []api.Node{{ID: 1, Labels: []string{"L"}, Props: p}}, Next: 2}
	}
	full := api.Graph{Nodes: nodes(api.MaxNodes), Edges: loops(api.MaxEdges, api.MaxNodes), Next: 101}
	for i := range full.Nodes {
		full.Nodes[i].Labels, full.Nodes[i].Props = names(api.MaxLabels), numbered(api.MaxProps)
	}
	for i := range full.Edges {
		full.Edges[i].Props = numbered(api.MaxProps)
	}
	return map[string]api.Graph{
		"nothing":              {Next: 1},
		"nothing, 63 gone":     {Next: 64},
		"nothing, 64 gone":     {Next: 65},
		"nothing, 126 gone":    {Next: 127},
		"nothing, 127 gone":    {Next: 128},
		"nothing, all gone":    {Next: 1 << 40},
		"a node":               {Nodes: nodes(1), Next: 2},
		"a node, one gone":     {Nodes: nodes(1), Next: 3},
		"the greatest number":  {Nodes: []api.Node{{ID: 1<<40 - 1}}, Next: 1 << 40},
		"two nodes":            {Nodes: nodes(2), Next: 3},
		"as many as may be":    full,
		"a loop":               {Nodes: nodes(1), Edges: loops(1, 1), Next: 3},
		"an edge":              {Nodes: nodes(2), Edges: []api.Edge{{ID: 3, From: 1, To: 2, Type: "T"}}, Next: 4},
		"an edge back":         {Nodes: nodes(2), Edges: []api.Edge{{ID: 3, From: 2, To: 1, Type: "T"}}, Next: 4},
		"another type":         {Nodes: nodes(2), Edges: []api.Edge{{ID: 3, From: 1, To: 2, Type: "U"}}, Next: 4},
		"a longer type":        {Nodes: nodes(2), Edges: []api.Edge{{ID: 3, From: 1, To: 2, Type: "Tabcdefghij9"}}, Next: 4},
		"an edge's property":   {Nodes: nodes(2), Edges: []api.Edge{{ID: 3, From: 1, To: 2, Type: "T", Props: numbered(1)}}, Next: 4},
		"a town":               town(),
		"a label":              one(),
		"labels":               {Nodes: []api.Node{{ID: 1, Labels: []string{"L", "M"}}}, Next: 2},
		"label and property":   {Nodes: []api.Node{{ID: 1, Labels: []string{"L"}, Props: props(prop("M", num(0)))}}, Next: 2},
		"false":                one(prop("p", api.Value{Kind: api.Bool})),
		"true":                 one(prop("p", api.Value{Kind: api.Bool, N: 1})),
		"0":                    one(prop("p", num(0))),
		"1":                    one(prop("p", num(1))),
		"-1":                   one(prop("p", num(-1))),
		"63":                   one(prop("p", num(63))),
		"64":                   one(prop("p", num(64))),
		"-64":                  one(prop("p", num(-64))),
		"-65":                  one(prop("p", num(-65))),
		"the greatest":         one(prop("p", num(1<<63-1))),
		"the least":            one(prop("p", num(-1<<63))),
		"the one behind":       one(prop("p", num(-1<<63+1))),
		"an empty text":        one(prop("p", str(""))),
		"a text":               one(prop("p", str("€"))),
		"a text with a nought": one(prop("p", str("\x00"))),
		"a text of 127":        one(prop("p", str(letters(127)))),
		"a text of 128":        one(prop("p", str(letters(128)))),
		"the longest text":     one(prop("p", str(letters(api.MaxText)))),
		"an empty list":        one(prop("p", lot())),
		"a null in a list":     one(prop("p", lot(null))),
		"two nulls in a list":  one(prop("p", lot(null, null))),
		"lists in a list":      one(prop("p", lot(lot(), lot()))),
		"a list in lists":      one(prop("p", lot(lot(lot())))),
		"the longest list":     one(prop("p", lot(make([]api.Value, api.MaxList)...))),
		"the deepest list":     one(prop("p", nest(null, api.MaxDeep))),
		"deep lists again":     one(prop("p", lot(nest(null, 5), nest(null, 5))), prop("q", nest(null, api.MaxDeep))),
		"more than a disk":     one(prop("p", lot(str(letters(api.MaxText)), str(letters(api.MaxText)), str(letters(api.MaxText))))),
	}
}

// manyOps are lists of operations that differ, each by a little; most of them can't be done.
func manyOps() map[string][]api.Op {
	full := make([]api.Op, api.MaxOps)
	for i := range full {
		full[i] = api.Op{Kind: i, Name: letters(api.MaxName), Labels: names(api.MaxLabels), Props: numbered(api.MaxProps)}
	}
	return map[string][]api.Op{
		"none":                  nil,
		"an empty one":          {{}},
		"two empty ones":        {{}, {}},
		"as many as may be":     make([]api.Op, api.MaxOps),
		"as much as may be":     full,
		"add a node":            {{Kind: api.AddNode}},
		"no kind":               {{Kind: 99}},
		"below all kinds":       {{Kind: -1}},
		"the greatest numbers":  {{Kind: 1<<63 - 1, ID: 1<<63 - 1, From: 1<<63 - 1, To: 1<<63 - 1}},
		"the least numbers":     {{Kind: -1 << 63, ID: -1 << 63, From: -1 << 63, To: -1 << 63}},
		"ID":                    {{ID: 1}},
		"From":                  {{From: 1}},
		"To":                    {{To: 1}},
		"ID, made":              {{ID: -1}},
		"a name":                {{Name: "n"}},
		"a longer name":         {{Name: "nn"}},
		"no name":               {{Name: "\xff\x00 \n€€"}},
		"false":                 {{Value: api.Value{Kind: api.Bool}}},
		"true":                  {{Value: api.Value{Kind: api.Bool, N: 1}}},
		"0":                     {{Value: num(0)}},
		"a text":                {{Value: str("n")}},
		"the longest text":      {{Value: str(letters(api.MaxText))}},
		"the deepest list":      {{Value: nest(num(1), api.MaxDeep)}},
		"an empty label":        {{Labels: []string{""}}},
		"two empty labels":      {{Labels: []string{"", ""}}},
		"labels in no order":    {{Labels: []string{"b", "a", "b", "\xff"}}},
		"labels in order":       {{Labels: []string{"a", "b", "b", "\xff"}}},
		"a label cut elsewhere": {{Labels: []string{"ab", "", "b", "\xff"}}},
		"an empty property":     {{Props: make([]api.Prop, 1)}},
		"properties twice":      {{Props: props(prop("p", num(1)), prop("p", num(1)))}},
		"a null":                {{Props: props(prop("p", null), prop("a", num(1)))}},
		"set":                   {{Kind: api.Set, ID: -1, Name: "age", Value: num(5)}},
		"more than a disk":      {{Value: str(letters(4000))}, {Value: str(letters(4000)), Props: props(prop("", str(letters(4000))))}},
	}
}
