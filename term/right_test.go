package term

import (
	"testing"

	"espalier/api"
	"espalier/sample"
)

func TestWrongConstants(t *testing.T) {
	for _, c := range []struct {
		what string
		do   func(x *api.Term)
		want api.Errno
	}{
		{"a name", func(x *api.Term) { x.Name = "a" }, api.ErrForm},
		{"terms", func(x *api.Term) { x.A = many(num1(), 1) }, api.ErrForm},
		{"a list", func(x *api.Term) { x.V = list() }, api.ErrForm},
		{"a list that is too long", func(x *api.Term) { x.V = list(make([]api.Value, 31)...) }, api.ErrForm},
		{"too long a text", func(x *api.Term) { x.V = sample.LongText() }, api.ErrMany},
		{"too long a text, and a name", func(x *api.Term) { x.V, x.Name = sample.LongText(), "a" }, api.ErrForm},
		{"too long a text, and terms", func(x *api.Term) { x.V, x.A = sample.LongText(), many(num1(), 1) }, api.ErrForm},
		{"no text", func(x *api.Term) { x.V = sample.WrongText() }, api.ErrForm},
		{"no bool", func(x *api.Term) { x.V = api.Value{Kind: api.Bool, N: 2} }, api.ErrForm},
		{"no null", func(x *api.Term) { x.V = api.Value{N: 1} }, api.ErrForm},
		{"no kind of value", func(x *api.Term) { x.V.Kind = 5 }, api.ErrForm},
	} {
		x := num1()
		c.do(&x)
		wrong(t, c.what, x, c.want)
		wrong(t, c.what+", within", nest(x, 2), c.want)
	}
	empty := api.Term{Kind: api.Const, V: api.Value{Kind: api.Text, S: "a", L: []api.Value{}}, A: []api.Term{}}
	says(t, "lists that are empty", empty, str("a"))
}

func TestOnlyConstantsHaveValues(t *testing.T) {
	for _, x := range []api.Term{variable("r"), field("r", "age"), apply("not", num1()), apply("list"), variable("nobody"), apply("list", many(num1(), 31)...), {Kind: 0}, {Kind: 5}} {
		for _, v := range []api.Value{num(0), no, {N: 1}, {S: "a"}, list(), {L: []api.Value{{}}}} {
			x.V = v
			wrong(t, "a value", x, api.ErrForm)
		}
	}
	x := variable("r")
	x.V.L, x.A = []api.Value{}, []api.Term{}
	says(t, "lists that are empty", x, num(2))
}

func TestWrongNames(t *testing.T) {
	holding := variable("r")
	holding.A = many(num1(), 1)
	wrong(t, "a name with terms", holding, api.ErrForm)
	holding.Name = "nobody"
	wrong(t, "a name with terms that isn't bound", holding, api.ErrForm)
	for _, s := range []string{"", "1", "a b", "é", "null", "count", "match", "id", "abcdefghijklm"} {
		wrong(t, "no name", variable(s), api.ErrForm)
		got, e := Eval(town(), []string{s}, []int{2}, variable(s))
		if e != api.ErrForm || got.Kind != api.Null {
			t.Errorf("%q, which is bound: %v, %d", s, got, e)
		}
	}
	wrong(t, "not bound", variable("q"), api.ErrWho)
	wrong(t, "not bound, as it stands in the graph", variable("Rex"), api.ErrWho)
}

func TestWrongFields(t *testing.T) {
	shape := func(name string, l ...api.Term) api.Term {
		return api.Term{Kind: api.Field, Name: name, A: l}
	}
	r, bad := variable("r"), variable("r")
	bad.V = num(1)
	for _, c := range []struct {
		what string
		t    api.Term
		want api.Errno
	}{
		{"of nothing", shape("age"), api.ErrForm},
		{"of two", shape("age", r, r), api.ErrForm},
		{"of a constant", shape("age", num1()), api.ErrForm},
		{"of a field", shape("age", field("r", "age")), api.ErrForm},
		{"of a call", shape("age", apply("coalesce", r)), api.ErrForm},
		{"no name", shape("", r), api.ErrForm},
		{"no name, of a nobody", shape("1", variable("q")), api.ErrForm},
		{"too long a name", shape("abcdefghijklm", r), api.ErrForm},
		{"of a nobody", shape("age", variable("q")), api.ErrWho},
		{"of no name", shape("age", variable("null")), api.ErrForm},
		{"of a name with a value", shape("age", bad), api.ErrForm},
		{"a word's name, of a nobody", shape("count", variable("q")), api.ErrWho},
	} {
		wrong(t, c.what, c.t, c.want)
	}
}

func TestWrongCalls(t *testing.T) {
	takes := map[string]int{
		"+": 2, "-": 2, "*": 2, "=": 2, "<": 2, "<=": 2, "and": 2, "or": 2, "in": 2,
		"not": 1, "null": 1, "size": 1, "head": 1, "id": 1, "type": 1,
	}
	edge := variable("k")
	for name, n := range takes {
		for i := range 40 {
			if i != n {
				wrong(t, name, apply(name, many(edge, i)...), api.ErrForm)
			}
		}
		if _, e := inTown(apply(name, many(edge, n)...)); e != api.OK {
			t.Errorf("%s: %d", name, e)
		}
	}
	for _, name := range []string{"coalesce", "list"} {
		for i := range 40 {
			x := apply(name, many(num1(), i)...)
			if i > api.MaxList {
				wrong(t, name, x, api.ErrMany)
			} else if _, e := inTown(x); e != api.OK {
				t.Errorf("%s of %d: %d", name, i, e)
			}
		}
		wrong(t, "too many, all of them wrong", apply(name, make([]api.Term, 31)...), api.ErrMany)
	}
	for _, name := range []string{"", "AND", "nobody", "match", "count", "is", "true", ">", "==", "/", " +", "list ", "r"} {
		wrong(t, "no call", apply(name, num1(), num1()), api.ErrForm)
		wrong(t, "no call", apply(name, num1()), api.ErrForm)
		wrong(t, "no call", apply(name, many(num1(), 31)...), api.ErrForm)
	}
	for _, kind := range []int{0, 5, -1, 1 << 62} {
		wrong(t, "no kind", api.Term{Kind: kind}, api.ErrForm)
		wrong(t, "no kind, within", apply("not", api.Term{Kind: kind, Name: "r"}), api.ErrForm)
	}
}

func TestCallsOfNames(t *testing.T) {
	wrong(t, "number of a constant", apply("id", num1()), api.ErrKind)
	wrong(t, "number of a field", apply("id", field("r", "age")), api.ErrKind)
	wrong(t, "number of a call", apply("id", apply("id", variable("r"))), api.ErrKind)
	wrong(t, "number of a nobody", apply("id", variable("q")), api.ErrWho)
	wrong(t, "number of a wrong call", apply("id", apply("not")), api.ErrForm)
	wrong(t, "type of a node", apply("type", variable("r")), api.ErrKind)
	wrong(t, "type of a constant", apply("type", num1()), api.ErrKind)
	wrong(t, "type of a field of an edge", apply("type", field("o", "since")), api.ErrKind)
	wrong(t, "type of a field that has an edge's name", apply("type", field("r", "k")), api.ErrKind)
	wrong(t, "type of a call", apply("type", apply("coalesce", variable("k"))), api.ErrKind)
	wrong(t, "type of a nobody", apply("type", variable("q")), api.ErrWho)
	wrong(t, "type of a wrong call", apply("type", apply("list", many(num1(), 31)...)), api.ErrMany)
	wrong(t, "type of a field of a nobody", apply("type", field("q", "since")), api.ErrWho)
}

func TestErrorsOneByOne(t *testing.T) {
	who, kind, form, much := variable("q"), apply("type", variable("r")), apply("not"), apply("list", many(num1(), 31)...)
	for _, a := range []struct {
		t api.Term
		e api.Errno
	}{{who, api.ErrWho}, {kind, api.ErrKind}, {form, api.ErrForm}, {much, api.ErrMany}} {
		for _, b := range []api.Term{who, kind, form, much, num1()} {
			wrong(t, "the first", apply("=", a.t, b), a.e)
			wrong(t, "the first, deeper", apply("list", apply("not", a.t), b), a.e)
			wrong(t, "the first that is wrong", apply("list", num1(), a.t, b), a.e)
		}
	}
	wrong(t, "an error within, ahead of its kind", apply("list", apply("id", apply("not", who))), api.ErrWho)
}

func TestDeepTerms(t *testing.T) {
	says(t, "as deep as may be", nest(num1(), api.MaxDeep-1), num(1))
	wrong(t, "too deep", nest(num1(), api.MaxDeep), api.ErrMany)
	wrong(t, "much too deep", nest(num1(), 5000), api.ErrMany)
	wrong(t, "too deep, and of no kind", nest(api.Term{Kind: 9}, api.MaxDeep), api.ErrMany)
	wrong(t, "no kind, as deep as may be", nest(api.Term{Kind: 9}, api.MaxDeep-1), api.ErrForm)
	wrong(t, "too deep, and a nobody", nest(variable("q"), api.MaxDeep), api.ErrMany)
	wrong(t, "a nobody, as deep as may be", nest(variable("q"), api.MaxDeep-1), api.ErrWho)
	says(t, "a field, as deep as may be", nest(field("r", "age"), api.MaxDeep-2), num(3))
	wrong(t, "a field's name is too deep", nest(field("r", "age"), api.MaxDeep-1), api.ErrMany)
	wrong(t, "a field of a constant, whose name would be too deep", nest(api.Term{Kind: api.Field, Name: "age", A: many(num1(), 1)}, api.MaxDeep-1), api.ErrForm)
	wrong(t, "a number's name is too deep", nest(apply("id", variable("r")), api.MaxDeep-1), api.ErrMany)
	wrong(t, "a constant is too deep, a nobody ahead of it", apply("list", variable("q"), nest(num1(), api.MaxDeep)), api.ErrWho)
	wrong(t, "a constant is too deep, a nobody behind it", apply("list", nest(num1(), api.MaxDeep), variable("q")), api.ErrMany)
	says(t, "nothing in the last call", nest(apply("list"), api.MaxDeep-1), list())
}
