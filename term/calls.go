package term

import (
	"unicode/utf8"

	"espalier/api"
	"espalier/seek"
	"espalier/value"
)

// anyNumber of terms is what some calls take.
const anyNumber = -1

// call says a value of those of the terms that it takes.
type call struct {
	takes int
	says  func(l []api.Value) api.Value
}

// Book has the calls by their names. It is handed on rather than made for each term anew: one may be asked for its value in many places.
type Book map[string]call

// Calls are all that there are.
func Calls() Book {
	return Book{
		"+":        {2, reckon("+")},
		"-":        {2, reckon("-")},
		"*":        {2, reckon("*")},
		"=":        {2, func(l []api.Value) api.Value { return value.Same(l[0], l[1]) }},
		"<":        {2, func(l []api.Value) api.Value { return value.Less(l[0], l[1]) }},
		"<=":       {2, func(l []api.Value) api.Value { return turned(value.Less(l[1], l[0])) }},
		"not":      {1, func(l []api.Value) api.Value { return turned(l[0]) }},
		"or":       {2, lean(1)},
		"and":      {2, lean(0)},
		"in":       {2, within},
		"null":     {1, func(l []api.Value) api.Value { return value.Truth(l[0].Kind == api.Null) }},
		"size":     {1, size},
		"head":     {1, head},
		"coalesce": {anyNumber, coalesce},
		"list":     {anyNumber, listOf},
		"id":       {1, func(l []api.Value) api.Value { return l[0] }},
		"type":     {1, nil}, // a type can't be had from a value: Value itself says it
	}
}

// Value is that of a term that is Right for these names. It may share memory with both.
func (b Book) Value(t api.Term, names Names) api.Value {
	switch {
	case t.Kind == api.Const:
		return t.V
	case t.Kind == api.Var:
		return api.Value{Kind: api.Int, N: names[t.Name].ID}
	case t.Kind == api.Field:
		return seek.Prop(names[t.A[0].Name].Props, t.Name)
	case t.Name == "type":
		return api.Value{Kind: api.Text, S: names[t.A[0].Name].Type}
	}
	l := make([]api.Value, 0, len(t.A))
	for _, x := range t.A {
		l = append(l, b.Value(x, names))
	}
	return b[t.Name].says(l)
}

func reckon(sign string) func(l []api.Value) api.Value {
	return func(l []api.Value) api.Value {
		// With an error, the value is zero: Null.
		v, _ := value.Reckon(sign, l[0], l[1])
		return v
	}
}

func turned(v api.Value) api.Value {
	if v.Kind != api.Bool {
		return api.Value{}
	}
	return value.Truth(v.N == 0)
}

// lean is a call that says the Bool n if one of its values is that, the other Bool if all of them are, else Null: so `or` leans to true, `and` to false.
func lean(n int) func(l []api.Value) api.Value {
	return func(l []api.Value) api.Value {
		others := 0
		for _, v := range l {
			if v.Kind == api.Bool && v.N == n {
				return v
			}
			if v.Kind == api.Bool {
				others++
			}
		}
		if others < len(l) {
			return api.Value{}
		}
		return api.Value{Kind: api.Bool, N: 1 - n}
	}
}

func within(l []api.Value) api.Value {
	if l[1].Kind != api.List {
		return api.Value{}
	}
	var same []api.Value
	for _, v := range l[1].L {
		same = append(same, value.Same(l[0], v))
	}
	return lean(1)(same)
}

func size(l []api.Value) api.Value {
	switch v := l[0]; v.Kind {
	case api.Text:
		return api.Value{Kind: api.Int, N: utf8.RuneCountInString(v.S)}
	case api.List:
		return api.Value{Kind: api.Int, N: len(v.L)}
	}
	return api.Value{}
}

func head(l []api.Value) api.Value {
	if v := l[0]; v.Kind == api.List && len(v.L) > 0 {
		return v.L[0]
	}
	return api.Value{}
}

func coalesce(l []api.Value) api.Value {
	for _, v := range l {
		if v.Kind != api.Null {
			return v
		}
	}
	return api.Value{}
}

func listOf(l []api.Value) api.Value {
	v := api.Value{Kind: api.List, L: l}
	if value.Check(v) != api.OK {
		return api.Value{}
	}
	return v
}
