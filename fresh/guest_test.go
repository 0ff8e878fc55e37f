package fresh_test

import (
	"reflect"
	"testing"

	"espalier/api"
	"espalier/fresh"
	"espalier/sample"
)

func TestGuestIsTheSameAndSharesNothing(t *testing.T) {
	whole := func() api.Guest {
		b := api.Bag{{R: api.Row{sample.Int(1), sample.List(sample.Int(2))}, N: -2}}
		return api.Guest{View: 3, Queue: []api.Bag{b, b, nil}, Fresh: true, At: 4}
	}
	u := whole()
	got := fresh.Guest(u)
	if !reflect.DeepEqual(got, u) {
		t.Errorf("%v", got)
	}
	got.Queue[0][0].R[1].L[0] = sample.Text("spoilt")
	got.Queue[0][0].R[0] = sample.Text("spoilt")
	got.Queue[0][0].N = 7
	if !reflect.DeepEqual(got.Queue[1], whole().Queue[1]) {
		t.Error("two lists of the answer share memory")
	}
	got.Queue[0] = nil
	if !reflect.DeepEqual(u, whole()) {
		t.Errorf("the answer shares memory with what was handed in: %v", u)
	}
	if got := fresh.Guest(api.Guest{Queue: make([]api.Bag, 0, 3)}); got.Queue != nil {
		t.Error("an empty list isn't nil")
	}
}
