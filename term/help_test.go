package term

import (
	"testing"

	"espalier/api"
	"espalier/sample"
	"espalier/value"
)

// Short names of what these tests say again and again.
var (
	num, str, list, prop, props = sample.Int, sample.Text, sample.List, sample.Prop, sample.Props
	constant, variable          = sample.Const, sample.Var
	field, apply, town          = sample.Field, sample.Call, sample.Town
)

var null, no, yes = api.Value{}, value.Truth(false), value.Truth(true)

// In the town, r is the dog Rex, p a person who likes things, n a node with nothing; o an edge that has a property, k one that has none.
var (
	townNames = []string{"r", "p", "n", "o", "k"}
	townIDs   = []int{2, 3, 9, 1, 5}
)

// inTown is the value of a term of the town's names.
func inTown(t api.Term) (api.Value, api.Errno) { return Eval(town(), townNames, townIDs, t) }

// alike tells whether two values are the same in all; lists that have nothing in them may be nil or empty.
func alike(a, b api.Value) bool { return value.Order(a, b) == 0 }

// says tells that a term has that value.
func says(t *testing.T, what string, x api.Term, want api.Value) {
	t.Helper()
	if got, e := inTown(x); e != api.OK || !alike(got, want) {
		t.Errorf("%s: %v, %d, want %v", what, got, e, want)
	}
}

// wrong tells that a term has that error, and no value.
func wrong(t *testing.T, what string, x api.Term, want api.Errno) {
	t.Helper()
	if got, e := inTown(x); e != want || !alike(got, null) || got.L != nil {
		t.Errorf("%s: %v, %d, want %d", what, got, e, want)
	}
}

// of is the call of constants; a List, which can be none, as the call that makes it.
func of(name string, l ...api.Value) api.Term {
	var a []api.Term
	for _, v := range l {
		a = append(a, telling(v))
	}
	return apply(name, a...)
}

func telling(v api.Value) api.Term {
	if v.Kind == api.List {
		return of("list", v.L...)
	}
	return constant(v)
}

// nest is x within so many calls.
func nest(x api.Term, calls int) api.Term {
	for range calls {
		x = apply("coalesce", x)
	}
	return x
}

// many is x so often.
func many(x api.Term, n int) []api.Term {
	var l []api.Term
	for range n {
		l = append(l, x)
	}
	return l
}
