package fresh_test

import (
	"reflect"
	"testing"

	"espalier/api"
	"espalier/fresh"
	"espalier/sample"
)

func TestBagIsTheSameAndSharesNothing(t *testing.T) {
	whole := func() api.Bag {
		return api.Bag{{R: api.Row{sample.Int(1), sample.List(sample.Int(2), sample.List(sample.Int(3)))}, N: -2}, {R: api.Row{sample.Text("a")}, N: 1 << 50}, {}}
	}
	b := whole()
	got := fresh.Bag(b)
	if !reflect.DeepEqual(got, b) {
		t.Errorf("%v", got)
	}
	got[0].R[1].L[1].L[0] = sample.Text("spoilt")
	got[0].R[1].L[0] = sample.Text("spoilt")
	got[0].R[0] = sample.Text("spoilt")
	got[1] = api.Count{}
	if !reflect.DeepEqual(b, whole()) {
		t.Errorf("the answer shares memory with what was handed in: %v", b)
	}
	if got := fresh.Bag(api.Bag{{R: make(api.Row, 0, 3)}}); got[0].R != nil || fresh.Bag(make(api.Bag, 0, 3)) != nil {
		t.Error("an empty list isn't nil")
	}
}
