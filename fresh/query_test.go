package fresh_test

import (
	"reflect"
	"testing"

	"espalier/api"
	"espalier/fresh"
	"espalier/sample"
)

func TestQueryIsTheSameAndSharesNothing(t *testing.T) {
	whole := func() api.Query {
		asked := sample.Call("null", sample.Field("a", "x"))
		return api.Query{
			Dots:     []api.Dot{{Name: "a", Label: "L"}, {}},
			Arrows:   []api.Arrow{{Name: "e", Type: "T", Back: true}},
			Where:    []api.Term{asked},
			Items:    []api.Item{{Name: "n", Agg: "count", T: asked}, {Name: "m", T: asked}},
			Distinct: true,
		}
	}
	q := whole()
	got := fresh.Query(q)
	if !reflect.DeepEqual(got, q) {
		t.Errorf("%v", got)
	}
	got.Items[0].T.A[0].A[0].Name = "spoilt"
	if got.Items[1].T.A[0].A[0].Name != "a" || got.Where[0].A[0].A[0].Name != "a" {
		t.Error("two lists of the answer share memory")
	}
	got.Where[0].A[0].A[0].Name = "spoilt"
	got.Dots[0], got.Arrows[0], got.Where[0], got.Items[1] = api.Dot{}, api.Arrow{}, api.Term{}, api.Item{}
	if !reflect.DeepEqual(q, whole()) {
		t.Errorf("the answer shares memory with what was handed in: %v", q)
	}
	got = fresh.Query(api.Query{Dots: make([]api.Dot, 0, 3), Arrows: make([]api.Arrow, 0, 3), Where: make([]api.Term, 0, 3), Items: make([]api.Item, 0, 3)})
	if got.Dots != nil || got.Arrows != nil || got.Where != nil || got.Items != nil {
		t.Error("an empty list isn't nil")
	}
}
