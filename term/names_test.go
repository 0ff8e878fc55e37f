package term

import (
	"reflect"
	"slices"
	"strings"
	"testing"

	"espalier/api"
	"espalier/graph"
)

const words = "match where return distinct as and or not in is null true false count sum min max size head coalesce id type"

func TestReserved(t *testing.T) {
	for _, s := range strings.Fields(words) {
		if !Reserved(s) || Name(s) {
			t.Errorf("%q isn't reserved", s)
		}
		for _, x := range []string{strings.ToUpper(s), s + "s", "_" + s, s + "_"} {
			if Reserved(x) || !Name(x) {
				t.Errorf("%q is reserved", x)
			}
		}
		for _, x := range []string{s + " ", " " + s, s + "\n", s[1:] + " ", s + "\x00"} {
			if Reserved(x) {
				t.Errorf("%q is reserved", x)
			}
		}
	}
	for _, s := range []string{"", "list", "a", "+", "=", "<=", words, "matchwhere"} {
		if Reserved(s) {
			t.Errorf("%q is reserved", s)
		}
	}
}

func TestName(t *testing.T) {
	for _, s := range []string{"", "1", "a b", "a-b", "é", "a\xff", strings.Repeat("a", api.MaxName+1), "list", "a", "_", "A1", "isnull", strings.Repeat("a", api.MaxName)} {
		if Name(s) != graph.Name(s) {
			t.Errorf("%q: %t", s, Name(s))
		}
	}
}

func TestFree(t *testing.T) {
	a, b := variable("a"), variable("b")
	for _, c := range []struct {
		what string
		t    api.Term
		want []string
	}{
		{"nothing", api.Term{}, nil},
		{"a constant", constant(str("a")), nil},
		{"a name", a, []string{"a"}},
		{"a field", field("a", "b"), []string{"a"}},
		{"a call", apply("id", a), []string{"a"}},
		{"a call of nothing", apply("list"), nil},
		{"rising", apply("and", b, apply("or", a, b)), []string{"a", "b"}},
		{"by bytes", apply("list", variable("aa"), variable("_"), a, variable("B"), variable("a1")), []string{"B", "_", "a", "a1", "aa"}},
		{"deep", nest(b, 100), []string{"b"}},
		{"of no call", apply("nobody", a), []string{"a"}},
		{"no name", apply("list", variable(""), variable("a b"), variable("null")), []string{"", "a b", "null"}},
		{"within a name", api.Term{Kind: api.Var, Name: "b", A: []api.Term{a}}, []string{"a", "b"}},
		{"within a constant", api.Term{Kind: api.Const, A: []api.Term{a}}, []string{"a"}},
		{"within no kind", api.Term{Kind: 9, Name: "z", A: []api.Term{a}}, []string{"a"}},
	} {
		if got := Free(c.t); !slices.Equal(got, c.want) {
			t.Errorf("%s: %q, want %q", c.what, got, c.want)
		}
	}
}

// A term may be too deep for calls within calls, and too wide for any other.
func TestFreeOfMuch(t *testing.T) {
	deep := api.Term{Kind: api.Call, A: []api.Term{variable("z")}}
	for range 1 << 18 {
		deep = api.Term{Kind: api.Call, A: []api.Term{deep}}
	}
	wide := apply("list", many(variable("y"), 1<<18)...)
	if got := Free(apply("=", deep, wide)); !slices.Equal(got, []string{"y", "z"}) {
		t.Errorf("%q", got)
	}
	wrong(t, "deep", deep, api.ErrForm)
	wrong(t, "wide", wide, api.ErrMany)
	wrong(t, "deep calls", nest(deep, 3), api.ErrForm)
}

func TestParts(t *testing.T) {
	a, b, c := variable("a"), field("b", "x"), constant(yes)
	or := apply("or", a, apply("and", a, b))
	for _, x := range []struct {
		what string
		t    api.Term
		want []api.Term
	}{
		{"a name", a, []api.Term{a}},
		{"a constant", c, []api.Term{c}},
		{"and", apply("and", b, a), []api.Term{b, a}},
		{"and of the same", apply("and", a, a), []api.Term{a, a}},
		{"and on the left", apply("and", apply("and", a, b), c), []api.Term{a, b, c}},
		{"and on the right", apply("and", c, apply("and", b, a)), []api.Term{c, b, a}},
		{"and on both sides", apply("and", apply("and", a, b), apply("and", b, c)), []api.Term{a, b, b, c}},
		{"or", or, []api.Term{or}},
		{"and of or", apply("and", or, c), []api.Term{or, c}},
		{"not", apply("not", apply("and", a, b)), []api.Term{apply("not", apply("and", a, b))}},
		{"a name that is no call", variable("and"), []api.Term{variable("and")}},
		{"a field that is no call", field("a", "and"), []api.Term{field("a", "and")}},
	} {
		if got := Parts(x.t); !reflect.DeepEqual(got, x.want) {
			t.Errorf("%s: %v, want %v", x.what, got, x.want)
		}
	}
}
