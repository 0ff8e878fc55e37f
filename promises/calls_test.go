// Package promises tests what DOC.md promises of every call: that it doesn't panic, answers the same again, only reads what it is handed, answers new memory, and nothing beside an error (P1 to P3).
package promises

import (
	"reflect"
	"slices"
	"testing"

	"espalier/api"
	"espalier/ask"
	"espalier/bag"
	"espalier/code"
	"espalier/crew"
	"espalier/desk"
	"espalier/grant"
	"espalier/graph"
	"espalier/guest"
	"espalier/index"
	"espalier/live"
	"espalier/match"
	"espalier/pack"
	"espalier/plan"
	"espalier/port"
	"espalier/query"
	"espalier/reach"
	"espalier/sample"
	"espalier/store"
	"espalier/term"
	"espalier/txn"
	"espalier/value"
)

// call is one that the document lists, and what it takes: mostly right things.
type call struct {
	name string
	f    any
	at   bool // a number stands beside an error
	tame func(s *sample.Source) []any
}

func calls() []call {
	return slices.Concat(lowCalls(), graphCalls(), termCalls(), queryCalls(), reachCalls(), matchCalls(), bagCalls(), askCalls(), planCalls(), liveCalls(), indexCalls(), packCalls(), storeCalls(), guestCalls(), grantCalls(), portCalls(), deskCalls(), crewCalls())
}

func lowCalls() []call {
	one := func(s *sample.Source) []any { return []any{s.Value(3)} }
	two := func(s *sample.Source) []any { return []any{s.Value(3), s.Value(3)} }
	return []call{
		{"value.Check", value.Check, false, one},
		{"value.Order", value.Order, false, two},
		{"value.Same", value.Same, false, two},
		{"value.Less", value.Less, false, two},
		{"value.Reckon", value.Reckon, false, func(s *sample.Source) []any {
			return []any{"+-*"[s.Below(3):][:1], s.Value(3), s.Value(3)}
		}},
		{"value.Print", value.Print, false, one},
		{"value.Parse", value.Parse, true, func(s *sample.Source) []any {
			text, _ := value.Print(s.Value(3))
			return []any{text}
		}},
		{"code.Bytes", code.Bytes, false, one},
		{"code.Value", code.Value, false, coded},
		{"code.Long", code.Long, false, coded},
		{"code.Frame", code.Frame, false, coded},
		{"code.Frames", code.Frames, false, func(s *sample.Source) []any {
			log := ""
			for range s.Below(4) {
				framed, _ := code.Frame(coded(s)[0].(string))
				log += framed
			}
			return []any{log}
		}},
	}
}

func coded(s *sample.Source) []any {
	b, _ := code.Bytes(s.Value(3))
	return []any{b}
}

func graphCalls() []call {
	return []call{
		{"graph.Name", graph.Name, false, func(s *sample.Source) []any { return []any{wildText(s)} }},
		{"graph.Labels", graph.Labels, false, func(s *sample.Source) []any { return []any{sample.Names(s.Below(5))} }},
		{"graph.Props", graph.Props, false, func(s *sample.Source) []any { return []any{s.Props()} }},
		{"graph.Check", graph.Check, false, func(s *sample.Source) []any { return []any{s.Graph(20)} }},
		{"graph.Prop", graph.Prop, false, func(s *sample.Source) []any {
			return []any{s.Graph(20), s.Below(9), "p" + "0123"[s.Below(4):][:1]}
		}},
		{"graph.Labelled", graph.Labelled, false, func(s *sample.Source) []any { return []any{s.Graph(20), wildText(s)} }},
		{"graph.Around", graph.Around, false, func(s *sample.Source) []any {
			return []any{s.Graph(20), s.Below(9), "", s.Below(2) == 0}
		}},
		{"txn.Apply", txn.Apply, true, func(s *sample.Source) []any {
			g := s.Graph(20)
			return []any{g, s.Ops(g, 8)}
		}},
		{"txn.Between", txn.Between, false, func(s *sample.Source) []any {
			g, h := changed(s)
			return []any{g, h}
		}},
		{"txn.Turn", txn.Turn, false, func(s *sample.Source) []any {
			g, h := changed(s)
			d, _ := txn.Between(g, h)
			return []any{g, d}
		}},
		{"txn.Back", txn.Back, false, func(s *sample.Source) []any {
			g, h := changed(s)
			d, _ := txn.Between(g, h)
			return []any{d}
		}},
	}
}

func termCalls() []call {
	nodes, edges := []string{"a", "b"}, []string{"e"}
	text := func(s *sample.Source) []any { return []any{wildText(s)} }
	return []call{
		{"term.Reserved", term.Reserved, false, text},
		{"term.Name", term.Name, false, text},
		{"term.Free", term.Free, false, func(s *sample.Source) []any { return []any{s.Term(nodes, edges, 5)} }},
		{"term.Eval", term.Eval, false, func(s *sample.Source) []any {
			g := s.Graph(20)
			for len(g.Edges) == 0 {
				g = s.Graph(20)
			}
			a, b := g.Nodes[s.Below(len(g.Nodes))], g.Nodes[s.Below(len(g.Nodes))]
			ids := []int{a.ID, b.ID, g.Edges[s.Below(len(g.Edges))].ID}
			return []any{g, slices.Concat(nodes, edges), ids, s.Term(nodes, edges, 5)}
		}},
	}
}

func queryCalls() []call {
	one := func(s *sample.Source) []any { return []any{s.Query(api.MaxDeep)} }
	return []call{
		{"query.Check", query.Check, false, one},
		{"query.Names", query.Names, false, one},
		{"query.Print", query.Print, false, one},
		{"query.Parse", query.Parse, true, func(s *sample.Source) []any {
			text, _ := query.Print(s.Query(4))
			return []any{text}
		}},
	}
}

func reachCalls() []call {
	return []call{
		{"reach.All", reach.All, false, func(s *sample.Source) []any { return []any{s.Graph(30), ""} }},
		{"reach.Path", reach.Path, false, func(s *sample.Source) []any {
			g := s.Graph(30)
			for len(g.Edges) == 0 {
				g = s.Graph(30)
			}
			return []any{g, "", g.Edges[s.Below(len(g.Edges))].From, g.Edges[s.Below(len(g.Edges))].To}
		}},
		{"reach.Change", reach.Change, false, func(s *sample.Source) []any {
			g, h := changed(s)
			return []any{g, h, "T" + "012"[s.Below(3):][:1]}
		}},
	}
}

func matchCalls() []call {
	return []call{
		{"match.All", match.All, false, func(s *sample.Source) []any { return []any{s.Query(api.MaxDeep), s.Graph(20)} }},
	}
}

func bagCalls() []call {
	return []call{
		{"bag.Compare", bag.Compare, false, func(s *sample.Source) []any { return []any{s.Row(0, 3), s.Row(0, 3)} }},
		{"bag.Check", bag.Check, false, func(s *sample.Source) []any { return []any{s.Bag(9, 0, 3)} }},
		{"bag.Of", bag.Of, false, func(s *sample.Source) []any { return []any{s.Rows(9, 0, 1)} }},
		{"bag.Add", bag.Add, false, func(s *sample.Source) []any { return []any{s.Bag(9, 0, 1), s.Bag(9, 0, 1), s.Below(7) - 3} }},
		{"bag.Pick", bag.Pick, false, func(s *sample.Source) []any { return []any{s.Bag(9, 2, 3), []int{1, s.Below(2), 1}} }},
		{"bag.Join", bag.Join, false, func(s *sample.Source) []any { return []any{s.Bag(9, 1, 2), s.Bag(9, 1, 2), s.Below(2)} }},
		{"bag.Distinct", bag.Distinct, false, func(s *sample.Source) []any { return []any{s.Bag(9, 0, 3)} }},
	}
}

func askCalls() []call {
	return []call{
		{"ask.Ask", ask.Ask, false, func(s *sample.Source) []any { return []any{s.Query(api.MaxDeep), s.Graph(20)} }},
		{"ask.Text", ask.Text, true, func(s *sample.Source) []any {
			text, _ := query.Print(s.Query(4))
			return []any{text, s.Graph(20)}
		}},
		{"ask.Sort", ask.Sort, false, func(s *sample.Source) []any {
			b, _ := bag.Of(s.Rows(20, 2, 3))
			return []any{b, []int{2, -1 - s.Below(2)}, s.Below(3), s.Below(20)}
		}},
	}
}

func planCalls() []call {
	return []call{
		{"plan.Check", plan.Check, false, func(s *sample.Source) []any {
			q := s.Loose()
			return []any{q, s.Plan(q)}
		}},
		{"plan.Of", plan.Of, false, func(s *sample.Source) []any { return []any{s.Query(api.MaxDeep), s.Below(2) == 0} }},
		{"plan.Run", plan.Run, false, func(s *sample.Source) []any {
			q := s.Loose()
			return []any{q, s.Plan(q), s.Graph(20)}
		}},
	}
}

func liveCalls() []call {
	view := func(s *sample.Source) (api.Hold, api.Graph, api.Graph) {
		g, b := changed(s)
		h, _ := live.Start(s.Loose(), g)
		return h, g, b
	}
	one := func(s *sample.Source) []any {
		h, g, _ := view(s)
		return []any{h, g}
	}
	return []call{
		{"live.Start", live.Start, false, func(s *sample.Source) []any { return []any{s.Query(api.MaxDeep), s.Graph(20)} }},
		{"live.Check", live.Check, false, one},
		{"live.Rows", live.Rows, false, one},
		{"live.Step", live.Step, false, func(s *sample.Source) []any {
			h, g, b := view(s)
			return []any{h, g, b}
		}},
		{"live.Names", live.Names, false, func(s *sample.Source) []any { return []any{s.Query(api.MaxDeep)} }},
	}
}

func indexCalls() []call {
	return []call{
		{"index.Of", index.Of, false, func(s *sample.Source) []any { return []any{s.Graph(40)} }},
		{"index.Step", index.Step, false, func(s *sample.Source) []any {
			g, h := changed(s)
			l, _ := index.Of(g)
			return []any{l, g, h}
		}},
		{"index.Find", index.Find, false, func(s *sample.Source) []any {
			l, _ := index.Of(s.Graph(40))
			if len(l) == 0 {
				return []any{l, "L0", "p0", s.Value(2)}
			}
			x := l[s.Below(len(l))]
			return []any{l, x.Label, x.Prop, x.V}
		}},
		{"index.Count", index.Count, false, func(s *sample.Source) []any { return []any{s.Graph(40)} }},
	}
}

func packCalls() []call {
	ops := func(s *sample.Source) []api.Op { return s.Ops(s.Graph(20), 8) }
	return []call{
		{"pack.Graph", pack.Graph, false, func(s *sample.Source) []any { return []any{s.Graph(40)} }},
		{"pack.OfGraph", pack.OfGraph, false, func(s *sample.Source) []any {
			b, _ := pack.Graph(s.Graph(40))
			return []any{b}
		}},
		{"pack.Ops", pack.Ops, false, func(s *sample.Source) []any { return []any{ops(s)} }},
		{"pack.OfOps", pack.OfOps, false, func(s *sample.Source) []any {
			b, _ := pack.Ops(ops(s))
			return []any{b}
		}},
	}
}

func storeCalls() []call {
	one := func(s *sample.Source) []any { return []any{stored(s)} }
	return []call{
		{"store.New", store.New, false, func(s *sample.Source) []any { return nil }},
		{"store.Recover", store.Recover, false, func(s *sample.Source) []any {
			x := stored(s)
			return []any{x.Base, x.Log.Safe + x.Log.Wait[:s.Below(len(x.Log.Wait)+1)]}
		}},
		{"store.Check", store.Check, false, one},
		{"store.Commit", store.Commit, true, func(s *sample.Source) []any {
			x := stored(s)
			return []any{x, s.Ops(x.G, 4)}
		}},
		{"store.Watch", store.Watch, false, func(s *sample.Source) []any {
			text, _ := query.Print(s.Query(4))
			return []any{stored(s), text}
		}},
		{"store.Sync", store.Sync, false, one},
		{"store.Lay", store.Lay, false, one},
		{"store.Crash", store.Crash, false, func(s *sample.Source) []any {
			x := stored(s)
			return []any{x, s.Below(len(x.Log.Wait) + 1)}
		}},
	}
}

func guestCalls() []call {
	return []call{
		{"guest.Check", guest.Check, false, func(s *sample.Source) []any { return []any{s.Guest()} }},
		{"guest.Tell", guest.Tell, false, func(s *sample.Source) []any { return []any{s.Guest(), s.Bag(20, 0, 2)} }},
		{"guest.Take", guest.Take, false, func(s *sample.Source) []any {
			u := s.Guest()
			return []any{u, s.Bag(20, 0, 2), u.At + s.Below(4)}
		}},
	}
}

func grantCalls() []call {
	who := func(s *sample.Source) ([]api.Grant, string) {
		l := s.Grants()
		return l, l[s.Below(len(l))].Who
	}
	question := func(s *sample.Source) []any {
		l, name := who(s)
		return []any{l, name, s.Loose(), s.Graph(30)}
	}
	return []call{
		{"grant.Check", grant.Check, false, func(s *sample.Source) []any { return []any{s.Grants()} }},
		{"grant.See", grant.See, false, func(s *sample.Source) []any {
			l, name := who(s)
			return []any{l, name, s.Graph(40)}
		}},
		{"grant.May", grant.May, false, func(s *sample.Source) []any {
			l, name := who(s)
			g := s.Graph(40)
			ops := s.Ops(g, 8)
			for len(ops) == 0 {
				ops = s.Ops(g, 8)
			}
			return []any{l, name, g, ops[0]}
		}},
		{"grant.Ask", grant.Ask, false, question},
		{"grant.Kept", grant.Kept, false, question},
	}
}

func portCalls() []call {
	return []call{
		{"port.Print", port.Print, false, func(s *sample.Source) []any { return []any{s.Graph(40)} }},
		{"port.Parse", port.Parse, true, func(s *sample.Source) []any {
			text, _ := port.Print(s.Graph(40))
			return []any{text}
		}},
	}
}

func deskCalls() []call {
	return []call{
		{"desk.New", desk.New, false, func(s *sample.Source) []any { return nil }},
		{"desk.Check", desk.Check, false, func(s *sample.Source) []any {
			d, _ := asked(s)
			return []any{d}
		}},
		{"desk.Do", desk.Do, true, func(s *sample.Source) []any {
			d, l := asked(s)
			return []any{d, l[len(l)-1]}
		}},
		{"desk.Run", desk.Run, false, func(s *sample.Source) []any {
			_, l := asked(s)
			return []any{l}
		}},
		{"desk.Sum", desk.Sum, false, func(s *sample.Source) []any { return []any{s.Bag(9, 0, 1), s.Bag(9, 0, 1), s.Below(2) == 0} }},
	}
}

func crewCalls() []call {
	return []call{
		{"crew.Ask", crew.Ask, false, func(s *sample.Source) []any {
			var l []string
			for range s.Below(7) {
				l = append(l, s.Question())
			}
			return []any{append(l, l...), s.Graph(60)}
		}},
	}
}

// asked is a desk to which some requests were made: these, but for the last.
func asked(s *sample.Source) (api.Desk, []api.Request) {
	d, l := desk.New(), []api.Request{s.Request(api.Graph{}, 0, 0)}
	for range s.Below(12) {
		if next, _, e := desk.Do(d, l[len(l)-1]); e == api.OK {
			d = next
		}
		l = append(l, s.Request(d.S.G, len(d.Views), len(d.Guests)))
	}
	return d, l
}

// stored is a store to which some things were done.
func stored(s *sample.Source) api.Store {
	x := store.New()
	for range s.Below(12) {
		next, e := x, api.OK
		switch s.Below(6) {
		case 0:
			next, e = store.Watch(x, "match (a) return a as n")
		case 1:
			next, e = store.Sync(x)
		case 2:
			next, e = store.Lay(x)
		default:
			next, _, _, e = store.Commit(x, s.Ops(x.G, 4))
		}
		if e == api.OK {
			x = next
		}
	}
	return x
}

// changed is a graph, and another that has much in common with it.
func changed(s *sample.Source) (api.Graph, api.Graph) {
	g := s.Graph(20)
	h, _, _, e := txn.Apply(g, s.Ops(g, 8))
	if e != api.OK {
		return g, g
	}
	return g, h
}

func TestRightArguments(t *testing.T) {
	for _, c := range calls() {
		s, went := sample.New(11), 0
		for range 400 {
			var args []reflect.Value
			for _, x := range c.tame(s) {
				args = append(args, reflect.ValueOf(x))
			}
			got := hold(t, c.name, c.f, c.at, args)
			if e, ok := got[len(got)-1].Interface().(api.Errno); !ok || e == api.OK {
				went++
			}
		}
		if went < 40 {
			t.Errorf("%s: only %d of these go", c.name, went)
		}
	}
}

// What a call takes is mixed with anything of that type.
func TestWildArguments(t *testing.T) {
	for _, c := range calls() {
		s, f := sample.New(12), reflect.TypeOf(c.f)
		for range 400 {
			var args []reflect.Value
			tame := c.tame(s)
			for i := range f.NumIn() {
				x := reflect.ValueOf(tame[i])
				if s.Below(3) > 0 {
					x = wild(s, f.In(i), 4)
				}
				args = append(args, x)
			}
			hold(t, c.name, c.f, c.at, args)
		}
	}
}
