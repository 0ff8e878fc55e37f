package term

import (
	"espalier/api"
	"espalier/graph"
	"espalier/value"
)

// Right tells what is wrong with a term, if those names are bound.
func (b Book) Right(t api.Term, names Names) api.Errno { return b.rightWithin(t, names, 0) }

// rightWithin goes no deeper than MaxDeep terms, so that it ends, however deep t is.
func (b Book) rightWithin(t api.Term, names Names, terms int) api.Errno {
	if terms >= api.MaxDeep {
		return api.ErrMany
	}
	if t.Kind != api.Const && !zero(t.V) {
		return api.ErrForm
	}
	switch t.Kind {
	case api.Const:
		return rightConst(t)
	case api.Var:
		return rightVar(t, names)
	case api.Field:
		return b.rightField(t, names, terms)
	case api.Call:
		return b.rightCall(t, names, terms)
	}
	return api.ErrForm
}

func zero(v api.Value) bool {
	return v.Kind == api.Null && v.N == 0 && v.S == "" && len(v.L) == 0
}

func rightConst(t api.Term) api.Errno {
	if t.Name != "" || len(t.A) > 0 || t.V.Kind == api.List {
		return api.ErrForm
	}
	return value.Check(t.V)
}

func rightVar(t api.Term, names Names) api.Errno {
	if len(t.A) > 0 || !Name(t.Name) {
		return api.ErrForm
	}
	if _, bound := names[t.Name]; !bound {
		return api.ErrWho
	}
	return api.OK
}

func (b Book) rightField(t api.Term, names Names, terms int) api.Errno {
	if len(t.A) != 1 || t.A[0].Kind != api.Var || !graph.Name(t.Name) {
		return api.ErrForm
	}
	return b.rightWithin(t.A[0], names, terms+1)
}

func (b Book) rightCall(t api.Term, names Names, terms int) api.Errno {
	c, found := b[t.Name]
	if !found || c.takes != anyNumber && c.takes != len(t.A) {
		return api.ErrForm
	}
	if len(t.A) > api.MaxList {
		return api.ErrMany
	}
	for _, x := range t.A {
		if e := b.rightWithin(x, names, terms+1); e != api.OK {
			return e
		}
	}
	if t.Name == "id" && t.A[0].Kind != api.Var || t.Name == "type" && !isEdge(t.A[0], names) {
		return api.ErrKind
	}
	return api.OK
}

func isEdge(t api.Term, names Names) bool { return t.Kind == api.Var && names[t.Name].Edge }
