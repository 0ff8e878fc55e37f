package fresh

import (
	"reflect"
	"testing"

	"espalier/api"
)

func num(n int) api.Value { return api.Value{Kind: api.Int, N: n} }

func list(l ...api.Value) api.Value { return api.Value{Kind: api.List, L: l} }

// spoil overwrites all lists within v, and the room behind them.
func spoil(v api.Value) {
	for _, x := range v.L {
		spoil(x)
	}
	l := v.L[:cap(v.L)]
	for i := range l {
		l[i] = num(-1)
	}
}

func TestValueIsTheSame(t *testing.T) {
	for _, v := range []api.Value{
		{}, num(3), {Kind: api.Text, S: "a"}, {Kind: api.Bool, N: 1}, list(num(1)), list(num(1), list(num(2), list(num(3)), num(4))),
		{Kind: -7, N: 3, S: "a", L: []api.Value{{Kind: 9}}},
	} {
		if got := Value(v); !reflect.DeepEqual(got, v) {
			t.Errorf("%v: %v", v, got)
		}
	}
}

func TestValueSharesNothing(t *testing.T) {
	room := []api.Value{num(7), num(8)}
	twice := []api.Value{num(2), list(num(3))}
	whole := func() api.Value {
		return list(num(1), list(twice...), list(twice...), api.Value{Kind: api.List, L: room[:0]})
	}
	v := whole()
	got := Value(v)
	spoil(got.L[1])
	if !reflect.DeepEqual(got.L[2], list(num(2), list(num(3)))) {
		t.Error("two lists of the answer share memory")
	}
	spoil(got)
	if !reflect.DeepEqual(v, whole()) || !reflect.DeepEqual(twice, []api.Value{num(2), list(num(3))}) || !reflect.DeepEqual(room, []api.Value{num(7), num(8)}) {
		t.Error("the answer shares memory with what was handed in")
	}
}

func TestDeep(t *testing.T) {
	v := num(1)
	for range 1000000 {
		v = list(v)
	}
	deep := 0
	for got := Value(v); len(got.L) > 0; got = got.L[0] {
		deep++
	}
	if deep != 1000000 {
		t.Errorf("%d", deep)
	}
}
