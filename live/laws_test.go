package live

import (
	"reflect"
	"slices"
	"strings"
	"testing"

	"espalier/api"
	"espalier/ask"
	"espalier/bag"
	"espalier/match"
	"espalier/query"
	"espalier/sample"
	"espalier/txn"
)

// loose is a question that stands in more ways than others do; most have few dots, and tell a property.
func loose(s *sample.Source) api.Query {
	q := s.Loose()
	if s.Below(3) > 0 {
		q = short(q, s.Below(3))
		for i := range q.Dots {
			q.Dots[i] = api.Dot{Name: []string{"a", "b", "c"}[i]}
		}
		for _, name := range sample.Names(s.Below(3)) {
			p := []string{"p0", "p1", "p2", "p3"}[s.Below(4)]
			q.Items = append(q.Items, api.Item{Name: name + "p", T: sample.Field(q.Dots[s.Below(len(q.Dots))].Name, p)})
		}
	}
	if s.Below(2) > 0 {
		q.Where = nil
	} else if s.Below(2) > 0 {
		q.Where = []api.Term{s.Where(q)}
	}
	return q
}

// short is a question of at most so many arrows, that has the names of the dots a to c alone.
func short(q api.Query, most int) api.Query {
	n := min(most, len(q.Arrows))
	q.Dots, q.Arrows, q.Where = q.Dots[:n+1], append([]api.Arrow(nil), q.Arrows[:n]...), nil
	for i := range q.Arrows {
		q.Arrows[i].Name = ""
	}
	q.Items = []api.Item{{Name: "n", T: sample.Var("a"), Agg: q.Items[0].Agg}}
	return q
}

// next is a graph behind some operations; now and then any other.
func next(s *sample.Source, g api.Graph, most int) api.Graph {
	if s.Below(12) == 0 {
		return s.Graph(40)
	}
	for range 5 {
		if b, _, _, e := txn.Apply(g, s.Ops(g, most)); e == api.OK {
			return b
		}
	}
	return g
}

// long is a question of many arrows, along any edges: there are often more ways than there may be.
func long(s *sample.Source) api.Query {
	q := short(loose(s), 0)
	q.Arrows = make([]api.Arrow, 2+s.Below(3))
	q.Dots = append([]api.Dot{{Name: "a"}}, make([]api.Dot, len(q.Arrows))...)
	for i := range q.Arrows {
		q.Arrows[i].Many = s.Below(3) > 0
	}
	return q
}

// times is how often a bag has each row.
func times(b api.Bag) map[string]int {
	out := map[string]int{}
	for _, c := range b {
		out[key(c.R)] = c.N
	}
	return out
}

// differ is what two bags differ in, counted row by row.
func differ(now, before api.Bag) map[string]int {
	out := times(now)
	for k, n := range times(before) {
		if out[k] -= n; out[k] == 0 {
			delete(out, k)
		}
	}
	return out
}

// Start, Rows and Step are what asking anew tells.
func TestViewsTellWhatAskingAnewTells(t *testing.T) {
	s := sample.New(121)
	told, full, later, none, stays := 0, 0, 0, 0, 0
	for i := range 6000 {
		a, q := s.Graph(5+i%60), loose(s)
		if i%10 == 0 {
			a, q = s.Graph(150), long(s)
		}
		b := next(s, a, 6)
		found, f := match.All(q, a)
		h, e := Start(q, a)
		if e != f || !slices.EqualFunc(h.Found, found, slices.Equal[[]int]) || e == api.OK && !reflect.DeepEqual(h.Q, q) {
			t.Fatalf("%v of %v: %v, %d, want %v, %d", q, a, h, e, found, f)
		}
		before, f := ask.Ask(q, a)
		if got, e := Rows(h, a); f == api.OK && (e != f || rows(got) != rows(before)) {
			t.Fatalf("%v of %v: %s, %d, want %s, %d", q, a, rows(got), e, rows(before), f)
		}
		if f == api.OK {
			now, g := ask.Ask(q, b)
			out, d, e := Step(h, a, b)
			if e != g || e == api.OK && (Check(out, b) != api.OK || bag.Check(d) != api.OK || !reflect.DeepEqual(times(d), differ(now, before))) {
				t.Fatalf("%v of %v, then %v: %v, %s, %d, want %d", q, a, b, out, rows(d), e, g)
			}
			told += len(d)
			if e == api.ErrFull {
				later++
			}
			if e == api.OK && len(d) == 0 {
				none++
			}
			if e == api.OK && len(d) > 0 && ways(out.Found) == ways(h.Found) {
				stays++
			}
		}
		if f == api.ErrFull {
			full++
		}
	}
	if told < 4000 || full < 10 || later < 5 || none < 1000 || stays < 20 {
		t.Errorf("%d rows, %d full, %d later, %d the same, %d with the same ways", told, full, later, none, stays)
	}
}

// What was told at first, and all differences since, added up, is what is told now.
func TestDifferencesAddUp(t *testing.T) {
	s := sample.New(122)
	steps, some := 0, 0
	for range 600 {
		g, q := s.Graph(30), loose(s)
		h, e := Start(q, g)
		if e != api.OK {
			continue
		}
		sum, _ := Rows(h, g)
		for range 12 {
			b := next(s, g, 4)
			out, d, e := Step(h, g, b)
			if e != api.OK {
				break
			}
			sum, e = bag.Add(sum, d, 1)
			if now, f := Rows(out, b); e != api.OK || f != api.OK || rows(sum) != rows(now) {
				t.Fatalf("%v of %v: %s, %d, want %s, %d", q, b, rows(sum), e, rows(now), f)
			}
			g, h = b, out
			steps++
			if len(d) > 0 {
				some++
			}
		}
	}
	if steps < 4000 || some < 800 {
		t.Errorf("%d steps, %d of them differ", steps, some)
	}
}

// There is no difference if nothing changed.
func TestNothingChanged(t *testing.T) {
	s := sample.New(123)
	for range 1500 {
		g, q := s.Graph(40), loose(s)
		h, e := Start(q, g)
		if e != api.OK {
			continue
		}
		b := g
		b.Next++
		for _, x := range []api.Graph{g, b} {
			if out, d, e := Step(h, g, x); e != api.OK || d != nil || !reflect.DeepEqual(out, h) {
				t.Fatalf("%v of %v: %v, %s, %d", q, g, out, rows(d), e)
			}
		}
	}
}

// namesOfText are those that the text of a question has behind a `:` or a `.`; and whether a dot or an arrow has no `:`.
func namesOfText(t *testing.T, q api.Query) ([]string, bool) {
	t.Helper()
	text, e := query.Print(q)
	if e != api.OK {
		t.Fatal(e)
	}
	word := "abcdefghijklmnopqrstuvwxyzABCDEFGHIJKLMNOPQRSTUVWXYZ0123456789_"
	var out []string
	quoted := false
	for i := range len(text) {
		switch c := text[i]; {
		case c == '\'' && (i == 0 || text[i-1] != '\\'):
			quoted = !quoted
		case !quoted && (c == ':' || c == '.'):
			behind := text[i+1:]
			end := len(behind) - len(strings.TrimLeft(behind, word))
			out = append(out, behind[:end])
		}
	}
	slices.Sort(out)
	pattern, _, _ := strings.Cut(strings.TrimPrefix(text, "match "), " ")
	return slices.Compact(out), strings.Count(pattern, ":") < len(q.Dots)+len(q.Arrows)
}

func TestNamesAreThoseOfTheText(t *testing.T) {
	s := sample.New(124)
	several, any, held := 0, 0, 0
	for range 4000 {
		q := s.Query(4)
		if text, _ := query.Print(q); text == "" || strings.Contains(text, `\`) {
			continue
		}
		want, all := namesOfText(t, q)
		l, got, e := Names(q)
		if e != api.OK || got != all || !slices.Equal(l, want) {
			text, _ := query.Print(q)
			t.Fatalf("%s: %v, %v, %d, want %v, %v", text, l, got, e, want, all)
		}
		if len(l) > 3 {
			several++
		}
		if all {
			any++
		} else {
			held++
		}
	}
	if several < 500 || any < 500 || held < 200 {
		t.Errorf("%d with several names, %d take any, %d don't", several, any, held)
	}
}

// strict is a question that takes no node and no edge but of its own labels and types.
func strict(s *sample.Source) api.Query {
	q := loose(s)
	for i := range q.Dots {
		q.Dots[i].Label = []string{"L0", "L0", "L1"}[s.Below(3)]
	}
	for i := range q.Arrows {
		q.Arrows[i].Type = []string{"T0", "T1"}[s.Below(2)]
	}
	return q
}

// strange leaves of operations those that have none of the names: neither they themselves nor the edge or node that they take away.
func strange(l []api.Op, g api.Graph, names []string) []api.Op {
	has := func(s string) bool { return slices.Contains(names, s) }
	var out []api.Op
	for _, o := range l {
		met := has(o.Name) || slices.ContainsFunc(o.Labels, has)
		for _, p := range o.Props {
			met = met || has(p.Name)
		}
		for _, x := range g.Edges {
			met = met || o.Kind == api.DropEdge && x.ID == o.ID && has(x.Type)
		}
		for _, n := range g.Nodes {
			met = met || o.Kind == api.DropNode && n.ID == o.ID && slices.ContainsFunc(n.Labels, has)
		}
		if !met && o.ID >= 0 && o.From >= 0 && o.To >= 0 {
			out = append(out, o)
		}
	}
	return out
}

// What has none of the names changes nothing for a question that takes nothing but what it names.
func TestOtherNamesChangeNothing(t *testing.T) {
	s := sample.New(125)
	went, some := 0, 0
	for range 6000 {
		g, q := s.Graph(60), strict(s)
		names, all, e := Names(q)
		h, f := Start(q, g)
		if all || e != api.OK {
			t.Fatalf("%v: %v, %d", q, all, e)
		}
		ops := strange(s.Ops(g, 12), g, names)
		b, _, _, e := txn.Apply(g, ops)
		if f != api.OK || e != api.OK || len(ops) == 0 {
			continue
		}
		out, d, e := Step(h, g, b)
		if e != api.OK || d != nil || !reflect.DeepEqual(out, h) {
			t.Fatalf("%v of %v, %v: %v, %s, %d", q, g, ops, out, rows(d), e)
		}
		went++
		if len(h.Found) > 0 {
			some++
		}
	}
	if went < 1000 || some < 200 {
		t.Errorf("%d went, %d of them with ways", went, some)
	}
}

// Any other list of ways than the one that is found is refused.
func TestCheckRefusesAnyOtherWays(t *testing.T) {
	s := sample.New(126)
	refused := 0
	for range 3000 {
		g, q := s.Graph(40), loose(s)
		h, e := Start(q, g)
		if e != api.OK || len(h.Found) == 0 {
			continue
		}
		was := ways(h.Found)
		i, k := s.Below(len(h.Found)), s.Below(len(h.Found))
		switch s.Below(4) {
		case 0:
			h.Found[i], h.Found[k] = h.Found[k], h.Found[i]
		case 1:
			h.Found[i] = slices.Clone(h.Found[k])
		case 2:
			h.Found = slices.Delete(h.Found, i, i+1)
		case 3:
			h.Found[i][s.Below(len(h.Found[i]))] = s.Below(20)
		}
		if got, same := Check(h, g), ways(h.Found) == was; same != (got == api.OK) || !same && got != api.ErrForm {
			t.Fatalf("%v of %v: %s was %s: %d", q, g, ways(h.Found), was, got)
		}
		if ways(h.Found) != was {
			refused++
		}
	}
	if refused < 500 {
		t.Errorf("%d refused", refused)
	}
}
