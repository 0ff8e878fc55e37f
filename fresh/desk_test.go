package fresh_test

import (
	"reflect"
	"testing"

	"espalier/api"
	"espalier/fresh"
	"espalier/sample"
)

func TestDeskIsTheSameAndSharesNothing(t *testing.T) {
	whole := func() api.Desk {
		h := api.Hold{
			Q:     api.Query{Dots: []api.Dot{{Name: "a"}}, Items: []api.Item{{Name: "n", T: sample.Call("null", sample.Var("a"))}}},
			Found: [][]int{{1, 2}, {3, 4}, nil},
		}
		u := api.Guest{View: 1, Queue: []api.Bag{{{R: api.Row{sample.Int(1)}, N: 2}}}, At: 1}
		return api.Desk{S: api.Store{G: sample.Town(), At: 5, Text: []string{"a", "b"}}, Views: []api.Hold{h, h}, Guests: []api.Guest{u, u}}
	}
	d := whole()
	got := fresh.Desk(d)
	if !reflect.DeepEqual(got, d) {
		t.Errorf("%v", got)
	}
	got.Views[0].Found[0][1] = 9
	got.Views[0].Q.Items[0].T.A[0].Name = "spoilt"
	got.Guests[0].Queue[0][0].R[0] = sample.Text("spoilt")
	if !reflect.DeepEqual(got.Views[1], whole().Views[1]) || !reflect.DeepEqual(got.Guests[1], whole().Guests[1]) {
		t.Error("two lists of the answer share memory")
	}
	got.Views[1].Found[1] = nil
	got.Views[1], got.Guests[1] = api.Hold{}, api.Guest{}
	got.S.Text[0] = "spoilt"
	spoil(got.S.G.Nodes, got.S.G.Edges)
	if !reflect.DeepEqual(d, whole()) {
		t.Errorf("the answer shares memory with what was handed in: %v", d)
	}
	got = fresh.Desk(api.Desk{Views: make([]api.Hold, 0, 3), Guests: make([]api.Guest, 0, 3)})
	h := fresh.Hold(api.Hold{Found: make([][]int, 0, 3)})
	if got.Views != nil || got.Guests != nil || h.Found != nil || fresh.Hold(api.Hold{Found: [][]int{make([]int, 0, 3)}}).Found[0] != nil {
		t.Error("an empty list isn't nil")
	}
}
