package fresh_test

import (
	"reflect"
	"testing"

	"espalier/api"
	"espalier/fresh"
	"espalier/sample"
)

func TestPlanIsTheSameAndSharesNothing(t *testing.T) {
	whole := func() api.Plan {
		where := sample.Call("null", sample.Field("a", "x"))
		p := api.Plan{Kind: api.Sift, Where: where, From: []api.Plan{{Kind: api.Scan}}}
		return api.Plan{Kind: api.Sift, Where: where, From: []api.Plan{{Kind: api.Hop, From: []api.Plan{p}}}}
	}
	p := whole()
	got := fresh.Plan(p)
	if !reflect.DeepEqual(got, p) {
		t.Errorf("%v", got)
	}
	got.Where.A[0].A[0].Name = "spoilt"
	if got.From[0].From[0].Where.A[0].A[0].Name != "a" {
		t.Error("two lists of the answer share memory")
	}
	got.From[0].From[0].From[0].Kind = api.Hop
	got.From[0].From[0].N = 7
	got.From[0] = api.Plan{}
	if !reflect.DeepEqual(p, whole()) {
		t.Errorf("the answer shares memory with what was handed in: %v", p)
	}
	if got := fresh.Plan(api.Plan{From: make([]api.Plan, 0, 3)}); got.From != nil {
		t.Error("an empty list isn't nil")
	}
}
