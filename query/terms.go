package query

import (
	"slices"

	"espalier/api"
	"espalier/graph"
	"espalier/term"
	"espalier/value"
)

func call(name string, l ...api.Term) api.Term {
	return api.Term{Kind: api.Call, Name: name, A: l}
}

func (r *reader) either() api.Term { return r.chain(r.both, "or") }

func (r *reader) both() api.Term { return r.chain(r.turned, "and") }

func (r *reader) sum() api.Term { return r.chain(r.product, "+", "-") }

func (r *reader) product() api.Term { return r.chain(r.plain, "*") }

// chain reads parts with these signs between them, and puts them together from the left.
func (r *reader) chain(part func() api.Term, signs ...string) api.Term {
	t := part()
	for slices.Contains(signs, r.next()) {
		sign := r.step()
		t = call(sign, t, part())
	}
	return t
}

func (r *reader) turned() api.Term {
	if !r.take("not") {
		return r.against()
	}
	return call("not", deeper(r, r.turned))
}

func (r *reader) against() api.Term {
	t := r.sum()
	switch sign := r.next(); sign {
	case "=", "<", "<=", "in":
		r.step()
		return call(sign, t, r.sum())
	case "is":
		r.want("is", "null")
		return call("null", t)
	}
	return t
}

func (r *reader) plain() api.Term {
	switch s := r.next(); {
	case s == "(":
		return between(r, "(", r.either, ")")
	case s == "[":
		return call("list", between(r, "[", r.list, "]")...)
	case calls(s):
		r.step()
		return call(s, between(r, "(", r.list, ")")...)
	case term.Name(s):
		return r.variable()
	}
	return r.constant()
}

// between reads what stands between two brackets.
func between[T any](r *reader, open string, read func() T, shut string) T {
	r.want(open)
	x := deeper(r, read)
	r.want(shut)
	return x
}

// deeper reads what stands within one more bracket or `not`.
func deeper[T any](r *reader, read func() T) T {
	r.within++
	x := read()
	r.within--
	return x
}

// list reads what stands between brackets that may have nothing in them.
func (r *reader) list() []api.Term {
	if s := r.next(); s == "]" || s == ")" {
		return nil
	}
	return series(r, r.either)
}

func (r *reader) variable() api.Term {
	t := api.Term{Kind: api.Var, Name: r.step()}
	if !r.take(".") {
		return t
	}
	return api.Term{Kind: api.Field, Name: r.wantName(graph.Name), A: []api.Term{t}}
}

// constant reads what chapter 1 reads of one word, or of a `-` and one word. It also gives up where nothing stands that a term could begin with: the place is the same.
func (r *reader) constant() api.Term {
	first, sign := r.at(), ""
	if r.take("-") {
		sign = "-"
	}
	if r.next() == "" {
		r.giveUp()
	}
	v, _, e := value.Parse(sign + r.next())
	if e != api.OK {
		panic(misfit{first, api.ErrText})
	}
	r.step()
	return api.Term{Kind: api.Const, V: v}
}
