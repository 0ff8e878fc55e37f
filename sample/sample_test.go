package sample

import (
	"reflect"
	"slices"
	"strings"
	"testing"

	"espalier/api"
	"espalier/graph"
	"espalier/value"
)

func TestSampleIsRight(t *testing.T) {
	s := New(1)
	nodes, edges := 0, 0
	for i := range 3000 {
		if v := s.Value(3); value.Check(v) != api.OK {
			t.Errorf("%v", v)
		}
		g := s.Graph(i % 150)
		if e := graph.Check(g); e != api.OK {
			t.Errorf("%v: %d", g, e)
		}
		nodes, edges = max(nodes, len(g.Nodes)), max(edges, len(g.Edges))
	}
	if nodes != api.MaxNodes || edges != api.MaxEdges {
		t.Errorf("at most %d nodes, %d edges", nodes, edges)
	}
}

func TestSampleIsTheSameAgain(t *testing.T) {
	for seed := range 20 {
		a, b := New(seed).Graph(30), New(seed).Graph(30)
		if !reflect.DeepEqual(a, b) {
			t.Errorf("%v, %v", a, b)
		}
	}
	if reflect.DeepEqual(New(1).Graph(100), New(2).Graph(100)) {
		t.Error("two seeds make the same")
	}
	if s := New(1); s.Below(0) != 0 || s.Below(-3) != 0 || s.Below(1) != 0 {
		t.Error("below nothing")
	}
}

func TestOpsNameWhatIsThere(t *testing.T) {
	s := New(7)
	kinds := map[int]int{}
	for i := range 2000 {
		g := s.Graph(i % 60)
		for _, o := range s.Ops(g, 10) {
			kinds[o.Kind]++
			if graph.Labels(o.Labels) != api.OK || graph.Props(o.Props) != api.OK || value.Check(o.Value) != api.OK {
				t.Errorf("%v", o)
			}
		}
	}
	for k := api.AddNode; k <= api.Untag; k++ {
		if kinds[k] < 200 {
			t.Errorf("kind %d: %d", k, kinds[k])
		}
	}
	if len(kinds) != 7 {
		t.Errorf("%v", kinds)
	}
}

func TestPlainOnesAreRight(t *testing.T) {
	if e := graph.Check(Town()); e != api.OK {
		t.Errorf("town: %d", e)
	}
	if e := graph.Check(api.Graph{Nodes: Nodes(5), Edges: Loops(5, 5), Next: 11}); e != api.OK {
		t.Errorf("loops: %d", e)
	}
	if graph.Labels(Names(4)) != api.OK || graph.Props(Numbered(6)) != api.OK {
		t.Error("names")
	}
	if value.Check(LongText()) != api.ErrMany || value.Check(WrongText()) != api.ErrForm {
		t.Error("texts")
	}
}

func TestTermsOfAllKinds(t *testing.T) {
	s := New(3)
	nodes, edges := []string{"a", "b"}, []string{"e"}
	names := map[string]int{}
	var walk func(x api.Term, deep int)
	walk = func(x api.Term, deep int) {
		kind := []string{"", "const", "name", "field", ""}[x.Kind]
		if deep > 4 || kind == "name" && !slices.Contains([]string{"a", "b", "e"}, x.Name) {
			t.Errorf("%v, %d deep", x, deep)
		}
		if kind == "" {
			kind = x.Name
		}
		names[kind]++
		for _, y := range x.A {
			walk(y, deep+1)
		}
	}
	for range 5000 {
		walk(s.Term(nodes, edges, 4), 1)
		walk(s.Term(nil, nil, 3), 2)
	}
	for _, c := range strings.Fields("const name field + - * = < <= and or not in null size head coalesce list id type") {
		if names[c] < 100 {
			t.Errorf("%s: %d", c, names[c])
		}
	}
}
