package sample

import "espalier/api"

// Const is a term of that kind.
func Const(v api.Value) api.Term { return api.Term{Kind: api.Const, V: v} }

// Var is a term of that kind.
func Var(name string) api.Term { return api.Term{Kind: api.Var, Name: name} }

// Field is a term of that kind: a property of what a name stands for.
func Field(name, prop string) api.Term {
	return api.Term{Kind: api.Field, Name: prop, A: []api.Term{Var(name)}}
}

// Call is a term of that kind.
func Call(name string, l ...api.Term) api.Term {
	return api.Term{Kind: api.Call, Name: name, A: l}
}

// Term is one that is right for these names of nodes and of edges, of at most so many terms within terms; deep must be above 0. Its fields are p0 to p3.
func (s *Source) Term(nodes, edges []string, deep int) api.Term {
	if deep == 1 || s.Below(5) == 0 {
		return s.plainTerm(nodes, edges, deep)
	}
	below := func(n int) []api.Term {
		var l []api.Term
		for range n {
			l = append(l, s.Term(nodes, edges, deep-1))
		}
		return l
	}
	one := []string{"not", "null", "size", "head"}
	two := []string{"+", "-", "*", "=", "<", "<=", "or", "and", "in"}
	switch k := s.Below(6); {
	case k == 0:
		return Call(one[s.Below(len(one))], below(1)...)
	case k == 1 && s.Below(2) == 0:
		return Call("coalesce", below(s.Below(4))...)
	case k == 1:
		return Call("list", below(s.Below(4))...)
	}
	return Call(two[s.Below(len(two))], below(2)...)
}

// plainTerm has no terms within it but a Var.
func (s *Source) plainTerm(nodes, edges []string, deep int) api.Term {
	all := append(append([]string(nil), nodes...), edges...)
	switch k := s.Below(6); {
	case k < 2 && deep > 1 && len(all) > 0:
		return Field(all[s.Below(len(all))], "p"+"0123"[s.Below(4):][:1])
	case k == 2 && len(all) > 0:
		return Var(all[s.Below(len(all))])
	case k == 3 && deep > 1 && len(all) > 0:
		return Call("id", Var(all[s.Below(len(all))]))
	case k == 4 && deep > 1 && len(edges) > 0:
		return Call("type", Var(edges[s.Below(len(edges))]))
	}
	return Const(s.Value(0))
}
