package query

import (
	"strings"

	"espalier/api"
	"espalier/value"
)

// Print writes a question as Parse reads it.
func Print(q api.Query) (string, api.Errno) {
	if e := Check(q); e != api.OK {
		return "", e
	}
	var w writer
	w.query(q)
	if w.long {
		return "", api.ErrMany
	}
	return w.out.String(), api.OK
}

// writer puts a text together. Once that is too long to be told, it takes nothing more: a question that Check takes may have millions of terms.
type writer struct {
	out  strings.Builder
	long bool
}

func (w *writer) add(parts ...string) {
	for _, s := range parts {
		if w.long || w.out.Len()+len(s) > api.MaxText {
			w.long = true
			return
		}
		w.out.WriteString(s)
	}
}

func (w *writer) query(q api.Query) {
	w.add("match ")
	for i, d := range q.Dots {
		if i > 0 {
			w.arrow(q.Arrows[i-1])
		}
		w.dot(d)
	}
	for _, t := range q.Where {
		w.add(" where ")
		w.term(t)
	}
	w.add(" return ", onlyIf(q.Distinct, "distinct "))
	for i, x := range q.Items {
		w.add(onlyIf(i > 0, ", "))
		w.item(x)
	}
}

func onlyIf(holds bool, s string) string {
	if holds {
		return s
	}
	return ""
}

// withColon is a label or a type, as it stands behind a name.
func withColon(s string) string { return onlyIf(s != "", ":"+s) }

func (w *writer) dot(d api.Dot) { w.add("(", d.Name, withColon(d.Label), ")") }

func (w *writer) arrow(x api.Arrow) {
	left, right := "-[", "]->"
	if x.Back {
		left, right = "<-[", "]-"
	}
	w.add(left, x.Name, withColon(x.Type), onlyIf(x.Many, "*"), right)
}

func (w *writer) item(x api.Item) {
	if x.Agg == "" {
		w.term(x.T)
	} else {
		w.add(x.Agg, "(")
		w.term(x.T)
		w.add(")")
	}
	w.add(" as ", x.Name)
}

func (w *writer) term(t api.Term) {
	switch {
	case w.long:
		return
	case t.Kind == api.Const:
		w.constant(t.V)
	case t.Kind == api.Var:
		w.add(t.Name)
	case t.Kind == api.Field:
		w.add(t.A[0].Name, ".", t.Name)
	default:
		w.call(t)
	}
}

func (w *writer) constant(v api.Value) {
	s, e := value.Print(v)
	// Check took the value: nothing else can be wrong with it than its length.
	w.long = w.long || e != api.OK
	w.add(s)
}

func (w *writer) call(t api.Term) {
	ahead, between, behind := dress(t.Name)
	w.add(ahead)
	for i, x := range t.A {
		w.add(onlyIf(i > 0, between))
		w.term(x)
	}
	w.add(behind)
}

// dress is what stands ahead of the terms of a call, between them, and behind.
func dress(name string) (ahead, between, behind string) {
	switch {
	case name == "list":
		return "[", ", ", "]"
	case calls(name):
		return name + "(", ", ", ")"
	case name == "not":
		return "(not ", "", ")"
	case name == "null":
		return "(", "", " is null)"
	}
	return "(", " " + name + " ", ")"
}
