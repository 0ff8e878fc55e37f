package fresh

import "espalier/api"

// Term is t, all lists within it in memory of their own. It must be right (chapter 5): then it is no deeper than terms may be.
func Term(t api.Term) api.Term {
	t.V = Value(t.V)
	t.A = each(t.A, Term)
	return t
}
