package graph

import (
	"strconv"
	"strings"

	"espalier/api"
)

func num(n int) api.Value { return api.Value{Kind: api.Int, N: n} }

func str(s string) api.Value { return api.Value{Kind: api.Text, S: s} }

func list(l ...api.Value) api.Value { return api.Value{Kind: api.List, L: l} }

func props(l ...api.Prop) []api.Prop { return l }

func prop(name string, v api.Value) api.Prop { return api.Prop{Name: name, Value: v} }

// longText is one that chapter 1's Check finds too long.
func longText() api.Value { return str(strings.Repeat("a", api.MaxText+1)) }

// wrongText is one that chapter 1's Check finds in no form.
func wrongText() api.Value { return str("\xff") }

// town is a graph with all that a graph can have: a ring, two edges between the same two nodes, a node with none.
func town() api.Graph {
	return api.Graph{
		Nodes: []api.Node{
			{ID: 2, Labels: []string{"Dog", "Pet"}, Props: props(prop("age", num(3)), prop("name", str("Rex")))},
			{ID: 3, Labels: []string{"Person"}, Props: props(prop("likes", list(num(1), list(str("a"), api.Value{}))))},
			{ID: 7, Labels: []string{"Person"}},
			{ID: 9},
		},
		Edges: []api.Edge{
			{ID: 1, From: 3, To: 2, Type: "OWNS", Props: props(prop("since", num(2020)))},
			{ID: 4, From: 7, To: 3, Type: "KNOWS"},
			{ID: 5, From: 7, To: 7, Type: "KNOWS"},
			{ID: 11, From: 3, To: 7, Type: "KNOWS"},
			{ID: 12, From: 3, To: 7, Type: "OWNS"},
		},
		Next: 13,
	}
}

// nodes are so many, numbered from 1 on.
func nodes(n int) []api.Node {
	var l []api.Node
	for i := range n {
		l = append(l, api.Node{ID: i + 1})
	}
	return l
}

// loops are so many edges from the node 1 to itself, numbered behind first.
func loops(n, first int) []api.Edge {
	var l []api.Edge
	for i := range n {
		l = append(l, api.Edge{ID: first + 1 + i, From: 1, To: 1, Type: "T"})
	}
	return l
}

// names are so many that rise.
func names(n int) []string {
	var l []string
	for i := range n {
		l = append(l, "n"+strconv.Itoa(i))
	}
	return l
}

// numbered are so many properties that rise.
func numbered(n int) []api.Prop {
	var l []api.Prop
	for i, s := range names(n) {
		l = append(l, prop(s, num(i)))
	}
	return l
}
