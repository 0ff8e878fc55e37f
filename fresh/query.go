package fresh

import "espalier/api"

// Query is q, all lists within it in memory of their own. It must be right (chapter 6): then its terms are no deeper than terms may be.
func Query(q api.Query) api.Query {
	q.Dots = append([]api.Dot(nil), q.Dots...)
	q.Arrows = append([]api.Arrow(nil), q.Arrows...)
	q.Where = each(q.Where, Term)
	q.Items = each(q.Items, item)
	return q
}

func item(x api.Item) api.Item {
	x.T = Term(x.T)
	return x
}
