package query

import (
	"strings"
	"testing"

	"espalier/api"
	"espalier/sample"
)

// Short names of what these tests say again and again.
var (
	num, str           = sample.Int, sample.Text
	constant, variable = sample.Const, sample.Var
	field, apply       = sample.Field, sample.Call
)

var null, no, yes = api.Value{}, api.Value{Kind: api.Bool}, api.Value{Kind: api.Bool, N: 1}

func one() api.Term { return constant(num(1)) }

// ask is a question with one dot, a, that tells one term.
func ask(x api.Term) api.Query {
	return api.Query{Dots: []api.Dot{{Name: "a"}}, Items: []api.Item{{Name: "n", T: x}}}
}

// whole is a question with all that one can have.
func whole() api.Query {
	return api.Query{
		Dots:   []api.Dot{{Name: "a", Label: "P"}, {Name: "b"}, {Label: "match"}, {}},
		Arrows: []api.Arrow{{Name: "e", Type: "K"}, {Back: true, Many: true}, {Type: "in", Many: true}},
		Where:  []api.Term{apply("<", field("a", "age"), one())},
		Items: []api.Item{
			{Name: "n", T: apply("type", variable("e"))},
			{Name: "a", Agg: "count", T: apply("id", variable("b"))},
		},
		Distinct: true,
	}
}

const wholeText = "match (a:P)-[e:K]->(b)<-[*]-(:match)-[:in*]->() where (a.age < 1) return distinct type(e) as n, count(id(b)) as a"

// many is x so often.
func many[T any](x T, n int) []T {
	var l []T
	for range n {
		l = append(l, x)
	}
	return l
}

// nest is x within so many calls.
func nest(x api.Term, calls int) api.Term {
	for range calls {
		x = apply("not", x)
	}
	return x
}

// around is s between so many of both.
func around(ahead, s, behind string, n int) string {
	return strings.Repeat(ahead, n) + s + strings.Repeat(behind, n)
}

// item is a question's text that tells one term, which begins at its byte 17.
func item(s string) string { return "match (a) return " + s + " as n" }

// reads tells that a text is read as that question.
func reads(t *testing.T, text string, want api.Query) {
	t.Helper()
	got, at, e := Parse(text)
	if e != api.OK || at != 0 || !alike(got, want) {
		t.Errorf("%q: %v, %d, %d, want %v", text, got, at, e, want)
	}
}

// fails tells that a text isn't read, and where.
func fails(t *testing.T, text string, want int, e api.Errno) {
	t.Helper()
	q, at, got := Parse(text)
	if got != e || at != want || !alike(q, api.Query{}) {
		t.Errorf("%q: %v, %d, %d, want %d, %d", text, q, at, got, want, e)
	}
}
