package query

import (
	"strings"
	"testing"

	"espalier/api"
)

func prints(t *testing.T, q api.Query, want string) {
	t.Helper()
	if s, e := Print(q); s != want || e != api.OK {
		t.Errorf("%v: %q, %d, want %q", q, s, e, want)
	}
}

func TestPrintWhole(t *testing.T) {
	prints(t, whole(), wholeText)
	prints(t, ask(one()), "match (a) return 1 as n")
	q := ask(one())
	q.Dots, q.Items = []api.Dot{{}}, append(q.Items, api.Item{Name: "m", Agg: "max", T: constant(null)}, api.Item{Name: "k", T: constant(yes)})
	prints(t, q, "match () return 1 as n, max(null) as m, true as k")
}

func TestPrintArrows(t *testing.T) {
	for s, x := range map[string]api.Arrow{
		"-[]->":     {},
		"<-[]-":     {Back: true},
		"-[e]->":    {Name: "e"},
		"<-[e]-":    {Name: "e", Back: true},
		"-[:T]->":   {Type: "T"},
		"<-[:T]-":   {Type: "T", Back: true},
		"-[e:T]->":  {Name: "e", Type: "T"},
		"<-[e:T]-":  {Name: "e", Type: "T", Back: true},
		"-[*]->":    {Many: true},
		"<-[*]-":    {Many: true, Back: true},
		"-[:T*]->":  {Type: "T", Many: true},
		"<-[:T*]-":  {Type: "T", Many: true, Back: true},
		"-[:is*]->": {Type: "is", Many: true},
	} {
		q := ask(one())
		q.Dots, q.Arrows = []api.Dot{{Name: "a", Label: "L"}, {Label: "M"}}, []api.Arrow{x}
		text := "match (a:L)" + s + "(:M) return 1 as n"
		prints(t, q, text)
		reads(t, text, q)
	}
}

// printed is each form of a term, and how it is written.
func printed() map[string]api.Term {
	a, x := variable("a"), field("a", "x")
	return map[string]api.Term{
		"null":                 constant(null),
		"true":                 constant(yes),
		"false":                constant(no),
		"0":                    constant(num(0)),
		"-5":                   constant(num(-5)),
		"-9223372036854775808": constant(num(-1 << 63)),
		"9223372036854775807":  constant(num(1<<63 - 1)),
		"''":                   constant(str("")),
		`'it\'s\n\\ é€😀 "->"'`: constant(str("it's\n\\ é€😀 \"->\"")),
		"'\x00\t\r#'":          constant(str("\x00\t\r#")),
		"a":                    a,
		"a.x":                  x,
		"a.null":               field("a", "null"),
		"[]":                   apply("list"),
		"[1]":                  apply("list", one()),
		"[1, a, [a.x]]":        apply("list", one(), a, apply("list", x)),
		"size(a.x)":            apply("size", x),
		"head([a, 1])":         apply("head", apply("list", a, one())),
		"coalesce()":           apply("coalesce"),
		"coalesce(a, a.x, 1)":  apply("coalesce", a, x, one()),
		"id(a)":                apply("id", a),
		"(not a)":              apply("not", a),
		"(not (not a))":        apply("not", apply("not", a)),
		"(a is null)":          apply("null", a),
		"(null is null)":       apply("null", constant(null)),
		"((a is null) and 1)":  apply("and", apply("null", a), one()),
		"(1 or (a or 1))":      apply("or", one(), apply("or", a, one())),
		"((1 or a) or 1)":      apply("or", apply("or", one(), a), one()),
		"(a in [1])":           apply("in", a, apply("list", one())),
		"(1 - -5)":             apply("-", one(), constant(num(-5))),
		"(-5 - 1)":             apply("-", constant(num(-5)), one()),
		"(a < -5)":             apply("<", a, constant(num(-5))),
		"(a <= -5)":            apply("<=", a, constant(num(-5))),
		"((a = 1) = (a * 1))":  apply("=", apply("=", a, one()), apply("*", a, one())),
		"((1 + a) * (a + 1))":  apply("*", apply("+", one(), a), apply("+", a, one())),
		"(not ((1 - a) < 1))":  apply("not", apply("<", apply("-", one(), a), one())),
	}
}

func TestPrintTerms(t *testing.T) {
	for s, x := range printed() {
		q := ask(x)
		prints(t, q, item(s))
		reads(t, item(s), q)
		q.Items[0].Agg = "sum"
		prints(t, q, item("sum("+s+")"))
		reads(t, item("sum("+s+")"), q)
		q.Where = []api.Term{x}
		prints(t, q, "match (a) where "+s+" return sum("+s+") as n")
	}
	q := whole()
	q.Where[0] = apply("=", apply("type", variable("e")), field("e", "type"))
	prints(t, q, strings.Replace(wholeText, "(a.age < 1)", "(type(e) = e.type)", 1))
}

func TestPrintTooLong(t *testing.T) {
	room := api.MaxText - len(item("''"))
	for _, c := range []struct {
		s    string
		want api.Errno
	}{
		{strings.Repeat("a", room), api.OK},
		{strings.Repeat("a", room+1), api.ErrMany},
		{strings.Repeat("a", api.MaxText), api.ErrMany},
		{strings.Repeat("'", room/2), api.OK},
		{strings.Repeat("'", room/2+1), api.ErrMany},
		{strings.Repeat("'", api.MaxText), api.ErrMany},
	} {
		s, e := Print(ask(constant(str(c.s))))
		if e != c.want || (e == api.OK) != (s != "") || len(s) > api.MaxText {
			t.Errorf("%d bytes: %d, %d, want %d", len(c.s), len(s), e, c.want)
		}
	}
}

// A question may have far more terms than a text could hold.
func TestPrintEndsSoon(t *testing.T) {
	x := one()
	for range 4 {
		x = apply("list", many(x, api.MaxList)...)
	}
	q := ask(x)
	if s, e := Print(q); s != "" || e != api.ErrMany {
		t.Errorf("%d bytes, %d", len(s), e)
	}
	q.Items = append(q.Items, api.Item{Name: "n", T: one()})
	if s, e := Print(q); s != "" || e != api.ErrTwice {
		t.Errorf("%d bytes, %d", len(s), e)
	}
}
