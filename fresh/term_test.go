package fresh_test

import (
	"reflect"
	"testing"

	"espalier/api"
	"espalier/fresh"
	"espalier/sample"
)

func TestTermIsTheSameAndSharesNothing(t *testing.T) {
	whole := func() api.Term {
		return sample.Call("and", sample.Call("list", sample.Const(sample.Text("a")), sample.Call("list", sample.Var("b"))), sample.Field("a", "x"))
	}
	x := whole()
	x.A = append(x.A, x.A[0])
	got := fresh.Term(x)
	if !reflect.DeepEqual(got, x) {
		t.Errorf("%v", got)
	}
	got.A[2].A[1].A[0].Name = "spoilt"
	if got.A[0].A[1].A[0].Name != "b" {
		t.Error("two lists of the answer share memory")
	}
	got.A[0].A[1].A[0].Name = "spoilt"
	got.A[0].A[0] = api.Term{}
	got.A[1].A[0] = api.Term{}
	got.A[0] = api.Term{}
	if !reflect.DeepEqual(x.A[:2], whole().A) {
		t.Errorf("the answer shares memory with what was handed in: %v", x)
	}
	empty := fresh.Term(api.Term{Kind: api.Var, Name: "a", V: api.Value{L: make([]api.Value, 0, 3)}, A: make([]api.Term, 0, 3)})
	if empty.V.L != nil || empty.A != nil {
		t.Error("an empty list isn't nil")
	}
}
