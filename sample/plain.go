package sample

import (
	"strconv"
	"strings"

	"espalier/api"
)

// Int is a value of that kind.
func Int(n int) api.Value { return api.Value{Kind: api.Int, N: n} }

// Text is a value of that kind.
func Text(s string) api.Value { return api.Value{Kind: api.Text, S: s} }

// List is a value of that kind.
func List(l ...api.Value) api.Value { return api.Value{Kind: api.List, L: l} }

// LongText is one that chapter 1's Check finds too long.
func LongText() api.Value { return Text(strings.Repeat("a", api.MaxText+1)) }

// WrongText is one that chapter 1's Check finds in no form.
func WrongText() api.Value { return Text("\xff") }

// Prop is a property of that name.
func Prop(name string, v api.Value) api.Prop { return api.Prop{Name: name, Value: v} }

// Props are those, as a list.
func Props(l ...api.Prop) []api.Prop { return l }

// Names are so many that rise.
func Names(n int) []string {
	var l []string
	for i := range n {
		l = append(l, "n"+strconv.Itoa(i))
	}
	return l
}

// Numbered are so many properties that rise.
func Numbered(n int) []api.Prop {
	var l []api.Prop
	for i, s := range Names(n) {
		l = append(l, Prop(s, Int(i)))
	}
	return l
}

// Nodes are so many, numbered from 1 on.
func Nodes(n int) []api.Node {
	var l []api.Node
	for i := range n {
		l = append(l, api.Node{ID: i + 1})
	}
	return l
}

// Loops are so many edges from the node 1 to itself, numbered behind first.
func Loops(n, first int) []api.Edge {
	var l []api.Edge
	for i := range n {
		l = append(l, api.Edge{ID: first + 1 + i, From: 1, To: 1, Type: "T"})
	}
	return l
}

// Town is a graph with all that a graph can have: a ring, two edges between the same two nodes, a node with none.
func Town() api.Graph {
	return api.Graph{
		Nodes: []api.Node{
			{ID: 2, Labels: []string{"Dog", "Pet"}, Props: Props(Prop("age", Int(3)), Prop("name", Text("Rex")))},
			{ID: 3, Labels: []string{"Person"}, Props: Props(Prop("likes", List(Int(1), List(Text("a"), api.Value{}))))},
			{ID: 7, Labels: []string{"Person"}},
			{ID: 9},
		},
		Edges: []api.Edge{
			{ID: 1, From: 3, To: 2, Type: "OWNS", Props: Props(Prop("since", Int(2020)))},
			{ID: 4, From: 7, To: 3, Type: "KNOWS"},
			{ID: 5, From: 7, To: 7, Type: "KNOWS"},
			{ID: 11, From: 3, To: 7, Type: "KNOWS"},
			{ID: 12, From: 3, To: 7, Type: "OWNS"},
		},
		Next: 13,
	}
}
