package sample

import (
	"reflect"
	"testing"

	"espalier/api"
	"espalier/graph"
	"espalier/value"
)

func TestSampleIsRight(t *testing.T) {
	s := New(1)
	nodes, edges := 0, 0
	for i := range 3000 {
		if v := s.Value(3); value.Check(v) != api.OK {
			t.Errorf("%v", v)
		}
		g := s.Graph(i % 150)
		if e := graph.Check(g); e != api.OK {
			t.Errorf("%v: %d", g, e)
		}
		nodes, edges = max(nodes, len(g.Nodes)), max(edges, len(g.Edges))
	}
	if nodes != api.MaxNodes || edges != api.MaxEdges {
		t.Errorf("at most %d nodes, %d edges", nodes, edges)
	}
}

func TestSampleIsTheSameAgain(t *testing.T) {
	for seed := range 20 {
		a, b := New(seed).Graph(30), New(seed).Graph(30)
		if !reflect.DeepEqual(a, b) {
			t.Errorf("%v, %v", a, b)
		}
	}
	if reflect.DeepEqual(New(1).Graph(100), New(2).Graph(100)) {
		t.Error("two seeds make the same")
	}
	if s := New(1); s.Below(0) != 0 || s.Below(-3) != 0 || s.Below(1) != 0 {
		t.Error("below nothing")
	}
}
