package value

import (
	"math/big"
	"strings"
	"testing"

	"espalier/api"
)

func TestReckon(t *testing.T) {
	half := strings.Repeat("a", api.MaxText/2)
	for _, c := range []struct {
		sign string
		a, b api.Value
		want api.Value
		e    api.Errno
	}{
		{"/", num(1), null, null, api.ErrWho},
		{"", num(1), num(2), null, api.ErrWho},
		{"++", num(1), num(2), null, api.ErrWho},
		{"+", null, num(1), null, api.OK},
		{"-", str("a"), null, null, api.OK},
		{"*", null, null, null, api.OK},
		{"*", null, api.Value{Kind: 9}, null, api.OK},
		{"+", api.Value{S: "a"}, num(1), null, api.OK},
		{"+", num(2), num(3), num(5), api.OK},
		{"-", num(2), num(3), num(-1), api.OK},
		{"*", num(-2), num(3), num(-6), api.OK},
		{"+", str("a"), str("b"), str("ab"), api.OK},
		{"+", str(""), str(""), str(""), api.OK},
		{"+", str("\xe2"), str("\x82\xac"), str("€"), api.OK},
		{"+", str(half), str(half), str(half + half), api.OK},
		{"+", str(half), str(half + "a"), null, api.ErrMany},
		{"-", str("a"), str("a"), null, api.ErrKind},
		{"*", str("a"), num(2), null, api.ErrKind},
		{"+", str("a"), num(2), null, api.ErrKind},
		{"+", yes, yes, null, api.ErrKind},
		{"+", list(), num(1), null, api.ErrKind},
		{"-", list(), list(), null, api.ErrKind},
		{"*", list(), list(), null, api.ErrKind},
		{"+", api.Value{Kind: 9}, api.Value{Kind: 9}, null, api.ErrKind},
		{"+", list(), list(), list(), api.OK},
		{"+", list(num(1)), list(null, list(num(2))), list(num(1), null, list(num(2))), api.OK},
		{"+", many(10), many(20), many(30), api.OK},
		{"+", many(10), many(21), null, api.ErrMany},
		{"-", many(10), many(21), null, api.ErrKind},
		{"+", api.Value{Kind: api.List, N: 1, S: "a"}, list(num(1)), list(num(1)), api.OK},
	} {
		if got, e := Reckon(c.sign, c.a, c.b); e != c.e || !alike(got, c.want) {
			t.Errorf("%v %q %v: %v, %d, want %v, %d", c.a, c.sign, c.b, got, e, c.want, c.e)
		}
	}
}

// Held against numbers that have no end.
func TestReckonInts(t *testing.T) {
	edges := []int{0, 1, 2, 3, 7, 1 << 31, 1 << 32, 3037000499, 3037000500, 1 << 61, 1 << 62, 1<<62 + 1, 1<<63 - 2, 1<<63 - 1, -1 << 63, -1<<63 + 1}
	for _, n := range edges {
		edges = append(edges, -n)
	}
	for _, a := range edges {
		for _, b := range edges {
			x, y := big.NewInt(int64(a)), big.NewInt(int64(b))
			for sign, whole := range map[string]*big.Int{"+": new(big.Int).Add(x, y), "-": new(big.Int).Sub(x, y), "*": new(big.Int).Mul(x, y)} {
				want, e := null, api.ErrOver
				if whole.IsInt64() {
					want, e = num(int(whole.Int64())), api.OK
				}
				if got, f := Reckon(sign, num(a), num(b)); f != e || !alike(got, want) {
					t.Errorf("%d %s %d: %v, %d, want %v, %d", a, sign, b, got, f, want, e)
				}
			}
		}
	}
}

// scrub overwrites all lists within v, and the room behind them.
func scrub(v api.Value) {
	for _, x := range v.L {
		scrub(x)
	}
	l := v.L[:cap(v.L)]
	for i := range l {
		l[i] = str("scrubbed")
	}
}

func TestReckonSharesNothing(t *testing.T) {
	room := []api.Value{num(7), num(8), num(9)}
	a := api.Value{Kind: api.List, L: append(make([]api.Value, 0, 9), num(1), list(num(2), list(num(3))), api.Value{Kind: api.List, L: room[:0]})}
	keep, spare := clone(a), clone(api.Value{L: a.L[:cap(a.L)]})
	out, e := Reckon("+", a, a)
	if e != api.OK || len(out.L) != 6 {
		t.Fatal(out, e)
	}
	if !alike(a, keep) || !alike(api.Value{L: a.L[:cap(a.L)]}, spare) {
		t.Error("what was handed in is changed")
	}
	second := clone(out.L[4])
	scrub(out.L[1])
	if !alike(out.L[4], second) {
		t.Error("two lists of the answer share memory")
	}
	scrub(out)
	if !alike(a, keep) || !alike(api.Value{L: a.L[:cap(a.L)]}, spare) || !alike(list(room...), list(num(7), num(8), num(9))) {
		t.Error("the answer shares memory with what was handed in")
	}
}
