package value

import (
	"runtime/debug"
	"testing"

	"espalier/api"
)

func TestOrder(t *testing.T) {
	rising := []api.Value{
		{Kind: -3}, {}, {S: "a"}, {N: 1}, no, yes, {Kind: api.Bool, N: 2},
		num(-1 << 63), num(-1), num(0), {Kind: api.Int, L: []api.Value{{}}}, {Kind: api.Int, S: "a"}, num(9), num(10), num(1<<63 - 1),
		str(""), str("B"), str("a"), str("a\x00"), str("ab"), str("b"), str("é"), str("€"), str("\xff"), {Kind: api.Text, N: 1},
		list(), list(null), list(null, null), list(null, num(1)), list(no), list(num(1)), list(num(1), null), list(num(1), str("z")), list(num(2)),
		list(list()), list(list(), num(5)), list(list(null)), list(list(null), null), list(list(num(1), num(2))), list(list(num(1), num(3)), null), list(list(num(2))),
		{Kind: api.List, S: "a"}, {Kind: api.List, N: 1}, {Kind: 5},
	}
	for i, a := range rising {
		for j, b := range rising {
			want := 0
			if i < j {
				want = -1
			} else if i > j {
				want = 1
			}
			if got := Order(a, b); got != want {
				t.Errorf("%v, %v: %d, want %d", a, b, got, want)
			}
		}
	}
	if Order(api.Value{Kind: api.List, L: []api.Value{}}, list()) != 0 {
		t.Error("an empty list and nil are not one")
	}
}

func TestSame(t *testing.T) {
	for _, c := range []struct{ a, b, want api.Value }{
		{null, null, null},
		{null, num(1), null},
		{list(), null, null},
		{api.Value{N: 3}, num(1), null},
		{num(1), num(1), yes},
		{num(1), num(2), no},
		{num(1), yes, no},
		{num(1), str("1"), no},
		{yes, yes, yes},
		{str("a"), str("a"), yes},
		{str("a"), str("A"), no},
		{list(), list(), yes},
		{list(), list(null), no},
		{list(), num(0), no},
		{list(null), list(null, null), no},
		{list(null), list(null), null},
		{list(null), list(num(1)), null},
		{list(num(1), null), list(num(1), num(2)), null},
		{list(num(1), null), list(num(2), null), no},
		{list(null, num(1)), list(null, num(2)), no},
		{list(num(1), num(2)), list(num(1), num(2)), yes},
		{list(list(num(1)), num(2)), list(list(num(1)), num(2)), yes},
		{list(list(num(1), null), num(2)), list(list(num(1), null), num(2)), null},
		{list(list(null), num(2)), list(list(num(1)), num(3)), no},
		{list(null, list(list(num(1)))), list(null, list(list(num(2)))), no},
		{list(null, list(list(num(1)))), list(null, list(list(num(1), num(2)))), no},
		{list(list(null)), list(num(1)), no},
		{api.Value{Kind: api.List, N: 1}, api.Value{Kind: api.List, S: "a"}, yes},
		{api.Value{Kind: 9}, api.Value{Kind: 9}, yes},
		{api.Value{Kind: api.Int, L: []api.Value{{}}}, api.Value{Kind: api.Int, L: []api.Value{{}}}, yes},
		{api.Value{Kind: api.Int, L: []api.Value{{}}}, api.Value{Kind: api.Int}, no},
	} {
		if got := Same(c.a, c.b); !alike(got, c.want) {
			t.Errorf("%v, %v: %v, want %v", c.a, c.b, got, c.want)
		}
		if got := Same(c.b, c.a); !alike(got, c.want) {
			t.Errorf("%v, %v: %v, want %v", c.b, c.a, got, c.want)
		}
	}
}

func TestLess(t *testing.T) {
	for _, c := range []struct{ a, b, want api.Value }{
		{num(1), num(2), yes},
		{num(2), num(1), no},
		{num(1), num(1), no},
		{num(-1 << 63), num(1<<63 - 1), yes},
		{str("a"), str("b"), yes},
		{str("a"), str("a"), no},
		{str("b"), str("a"), no},
		{str("Z"), str("a"), yes},
		{str("a"), str("ab"), yes},
		{num(1), str("a"), null},
		{str("a"), num(1), null},
		{no, yes, null},
		{null, num(1), null},
		{num(1), null, null},
		{null, null, null},
		{list(num(1)), list(num(2)), null},
		{api.Value{Kind: 9, N: 1}, api.Value{Kind: 9, N: 2}, null},
	} {
		if got := Less(c.a, c.b); !alike(got, c.want) {
			t.Errorf("%v, %v: %v, want %v", c.a, c.b, got, c.want)
		}
	}
}

// Values that Check doesn't take may be of any depth; none of the calls may run out of room for calls within calls.
func TestDeep(t *testing.T) {
	defer debug.SetMaxStack(debug.SetMaxStack(1 << 22))
	const lists = 200000
	a, b := nest(num(1), lists), nest(num(2), lists)
	if Order(a, b) != -1 || Order(b, a) != 1 || Order(a, a) != 0 {
		t.Error("order")
	}
	if !alike(Same(a, b), no) || !alike(Same(a, a), yes) || !alike(Same(a, nest(null, lists)), null) {
		t.Error("same")
	}
	if !alike(Less(a, b), null) || Check(a) != api.ErrMany {
		t.Error("less or check")
	}
	if _, e := Print(a); e != api.ErrMany {
		t.Error("print", e)
	}
	v, e := Reckon("+", a, b)
	if e != api.OK || Order(v, list(a.L[0], b.L[0])) != 0 {
		t.Error("reckon", e)
	}
}
