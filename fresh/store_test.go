package fresh_test

import (
	"reflect"
	"testing"

	"espalier/api"
	"espalier/fresh"
	"espalier/sample"
)

func TestStoreIsTheSameAndSharesNothing(t *testing.T) {
	whole := func() api.Store {
		return api.Store{G: sample.Town(), At: 5, Log: api.Disk{Safe: "a", Wait: "b"}, Base: "c", Text: []string{"d", "e"}}
	}
	s := whole()
	got := fresh.Store(s)
	if !reflect.DeepEqual(got, s) {
		t.Errorf("%v", got)
	}
	spoil(got.G.Nodes, got.G.Edges)
	got.Text[1] = "spoilt"
	if !reflect.DeepEqual(s, whole()) {
		t.Errorf("the answer shares memory with what was handed in: %v", s)
	}
	if got := fresh.Store(api.Store{Text: make([]string, 0, 3)}); got.Text != nil {
		t.Error("an empty list isn't nil")
	}
}
