package query

import (
	"slices"

	"espalier/api"
	"espalier/graph"
	"espalier/term"
)

// maxWithin is how many brackets and `not` are too many around a word; far above MaxDeep, since brackets around a term make it no deeper.
const maxWithin = 40

// misfit is what a reader gives up with: what is wrong, and where.
type misfit struct {
	at int
	e  api.Errno
}

// reader takes words one after the other.
type reader struct {
	words  []word
	end    int // where the words end
	within int // how many brackets and `not` are open
}

// Parse reads a question.
func Parse(text string) (q api.Query, at int, e api.Errno) {
	if len(text) > api.MaxText {
		return api.Query{}, 0, api.ErrMany
	}
	q, at, e = readAll(text)
	if e != api.OK {
		return api.Query{}, at, e
	}
	if e = Check(q); e != api.OK {
		return api.Query{}, 0, e
	}
	return q, 0, api.OK
}

// readAll is where a reader begins, and where its giving up ends.
func readAll(text string) (q api.Query, at int, e api.Errno) {
	defer func() {
		p := recover()
		if p == nil {
			return
		}
		m, ok := p.(misfit)
		if !ok {
			panic(p)
		}
		q, at, e = api.Query{}, m.at, m.e
	}()
	words, end := split(text)
	r := &reader{words: words, end: end}
	q = r.query()
	if r.at() < len(text) {
		r.giveUp()
	}
	return q, 0, api.OK
}

// next is the word that is to be taken; "" if there is none.
func (r *reader) next() string {
	if len(r.words) == 0 {
		return ""
	}
	return r.words[0].text
}

// at is where the next word begins, or should begin.
func (r *reader) at() int {
	if len(r.words) == 0 {
		return r.end
	}
	return r.words[0].at
}

func (r *reader) giveUp() { panic(misfit{r.at(), api.ErrText}) }

// step takes the next word, which fits. Only here can it be told that one stands too deep: one that doesn't fit stands nowhere.
func (r *reader) step() string {
	if r.within >= maxWithin {
		panic(misfit{r.at(), api.ErrMany})
	}
	s := r.next()
	r.words = r.words[1:]
	return s
}

// take takes the next word if it is one of these.
func (r *reader) take(fit ...string) bool {
	if !slices.Contains(fit, r.next()) {
		return false
	}
	r.step()
	return true
}

// want takes words one after the other, which must be these.
func (r *reader) want(all ...string) {
	for _, s := range all {
		if !r.take(s) {
			r.giveUp()
		}
	}
}

// wantName takes a word that is a name of that kind.
func (r *reader) wantName(right func(string) bool) string {
	if !right(r.next()) {
		r.giveUp()
	}
	return r.step()
}

func (r *reader) query() api.Query {
	r.want("match")
	q := api.Query{Dots: []api.Dot{r.dot()}}
	for r.next() == "-" || r.next() == "<-" {
		q.Arrows = append(q.Arrows, r.arrow())
		q.Dots = append(q.Dots, r.dot())
	}
	if r.take("where") {
		q.Where = []api.Term{r.either()}
	}
	r.want("return")
	q.Distinct = r.take("distinct")
	q.Items = series(r, r.item)
	return q
}

// series reads once or more, with commas between.
func series[T any](r *reader, read func() T) []T {
	l := []T{read()}
	for r.take(",") {
		l = append(l, read())
	}
	return l
}

func (r *reader) dot() api.Dot {
	r.want("(")
	name, label := r.named()
	r.want(")")
	return api.Dot{Name: name, Label: label}
}

func (r *reader) arrow() api.Arrow {
	var x api.Arrow
	x.Back = r.take("<-")
	if !x.Back {
		r.want("-")
	}
	r.want("[")
	x.Name, x.Type = r.named()
	x.Many = r.take("*")
	if x.Back {
		r.want("]", "-")
	} else {
		r.want("]", "->")
	}
	return x
}

// named reads a name and a label or type, of which each may be missing. What can't be a name is left to what must follow.
func (r *reader) named() (name, kind string) {
	if term.Name(r.next()) {
		name = r.step()
	}
	if r.take(":") {
		kind = r.wantName(graph.Name)
	}
	return name, kind
}

func (r *reader) item() api.Item {
	var x api.Item
	if aggregates(r.next()) {
		x.Agg = r.step()
		x.T = between(r, "(", r.either, ")")
	} else {
		x.T = r.either()
	}
	r.want("as")
	x.Name = r.wantName(term.Name)
	return x
}
