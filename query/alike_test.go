package query

import (
	"slices"

	"espalier/api"
	"espalier/value"
)

// alike tells whether two questions are the same in all; lists that have nothing in them may be nil or empty.
func alike(p, q api.Query) bool {
	return slices.Equal(p.Dots, q.Dots) && slices.Equal(p.Arrows, q.Arrows) && p.Distinct == q.Distinct &&
		slices.EqualFunc(p.Where, q.Where, alikeTerms) && slices.EqualFunc(p.Items, q.Items, alikeItems)
}

func alikeItems(a, b api.Item) bool {
	return a.Name == b.Name && a.Agg == b.Agg && alikeTerms(a.T, b.T)
}

func alikeTerms(a, b api.Term) bool {
	return a.Kind == b.Kind && a.Name == b.Name && value.Order(a.V, b.V) == 0 && slices.EqualFunc(a.A, b.A, alikeTerms)
}
