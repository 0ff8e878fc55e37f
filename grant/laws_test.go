package grant

import (
	"reflect"
	"slices"
	"testing"

	"espalier/api"
	"espalier/ask"
	"espalier/bag"
	"espalier/graph"
	"espalier/sample"
	"espalier/txn"
)

// enough tells whether all that matters came about so often.
func enough(t *testing.T, met map[string]int, least int, words ...string) {
	t.Helper()
	for _, k := range words {
		if met[k] < least {
			t.Errorf("%s: only %d", k, met[k])
		}
	}
}

// byLooking is what is seen, found another way: nodes by each label, edges around each node.
func byLooking(t *testing.T, labels []string, g api.Graph) api.Graph {
	t.Helper()
	nodes, ends := map[int]int{}, map[int]int{}
	for _, s := range labels {
		ids, e := graph.Labelled(g, s)
		if e != api.OK {
			t.Fatal(e)
		}
		for _, id := range ids {
			nodes[id]++
		}
	}
	for id := range nodes {
		for _, in := range []bool{false, true} {
			ids, e := graph.Around(g, id, "", in)
			if e != api.OK {
				t.Fatal(e)
			}
			for _, x := range ids {
				ends[x]++
			}
		}
	}
	out := api.Graph{Next: g.Next}
	for _, n := range g.Nodes {
		if nodes[n.ID] > 0 {
			out.Nodes = append(out.Nodes, n)
		}
	}
	for _, x := range g.Edges {
		if ends[x.ID] == 2 {
			out.Edges = append(out.Edges, x)
		}
	}
	return out
}

func TestSeeIsWhatLookingTells(t *testing.T) {
	s, met := sample.New(171), map[string]int{}
	for i := range 3000 {
		l, g := s.Grants(), s.Graph(5+i%90)
		for _, x := range l {
			got, want := seenBy(t, l, x.Who, g), byLooking(t, x.Labels, g)
			if !alike(got, want) || graph.Check(got) != api.OK {
				t.Fatalf("%v of %v: %v, want %v", x, g, got, want)
			}
			if again := seenBy(t, l, x.Who, got); !alike(again, got) {
				t.Fatalf("%v of %v: %v, then %v", x, g, got, again)
			}
			switch {
			case len(got.Nodes) == len(g.Nodes):
				met["all nodes"]++
			case len(got.Nodes) == 0:
				met["no nodes"]++
			case len(got.Edges) > 0 && len(got.Edges) < len(g.Edges):
				met["some edges"]++
			}
		}
	}
	enough(t, met, 500, "all nodes", "no nodes", "some edges")
}

// Neither the others' grants nor the order of anything makes a difference; a label more takes nothing away.
func TestGrantsStandAlone(t *testing.T) {
	s, more := sample.New(172), 0
	for range 2000 {
		l, g := s.Grants(), s.Graph(60)
		for _, x := range l {
			want := seenBy(t, l, x.Who, g)
			labels := slices.Clone(x.Labels)
			slices.Reverse(labels)
			if got := seenBy(t, []api.Grant{{Who: "z", Labels: labels}}, "z", g); !alike(got, want) {
				t.Fatalf("%v of %v: %v alone, %v among others", x, g, got, want)
			}
			if len(labels) == api.MaxLabels {
				continue
			}
			wider := seenBy(t, only(append(labels, []string{"L0", "L1", "L2", "L3"}[s.Below(4)])...), "x", g)
			for _, n := range want.Nodes {
				if !slices.ContainsFunc(wider.Nodes, func(m api.Node) bool { return n.ID == m.ID }) {
					t.Fatalf("%v of %v: a label more takes %d away", x, g, n.ID)
				}
			}
			for _, a := range want.Edges {
				if !slices.ContainsFunc(wider.Edges, func(b api.Edge) bool { return a.ID == b.ID }) {
					t.Fatalf("%v of %v: a label more takes %d away", x, g, a.ID)
				}
			}
			if len(wider.Nodes) > len(want.Nodes) {
				more++
			}
		}
	}
	if more < 500 {
		t.Errorf("only %d see more", more)
	}
}

// question is one that stands in more ways than others do; half of them have no Agg.
func question(s *sample.Source) api.Query {
	q := s.Loose()
	if s.Below(2) > 0 {
		q.Where = nil
	}
	if s.Below(2) > 0 {
		for i := range q.Items {
			q.Items[i].Agg = ""
		}
	}
	return q
}

func hasAgg(q api.Query) bool {
	return slices.ContainsFunc(q.Items, func(x api.Item) bool { return x.Agg != "" })
}

// other is another graph of which the same is seen by these labels: all that isn't seen is made anew. It can't be, where all nodes are seen.
func other(s *sample.Source, labels []string, seen api.Graph) api.Graph {
	if slices.Contains(labels, "") {
		return seen
	}
	out := api.Graph{Nodes: slices.Clone(seen.Nodes), Edges: slices.Clone(seen.Edges), Next: seen.Next}
	free := freeNumbers(seen)
	var hidden []int
	for range s.Below(6) {
		if len(free) == 0 || len(out.Nodes) == api.MaxNodes {
			break
		}
		hidden, free = append(hidden, free[0]), free[1:]
		out.Nodes = append(out.Nodes, api.Node{ID: hidden[len(hidden)-1], Labels: hiddenLabels(s, labels), Props: s.Props()})
	}
	for range s.Below(8) {
		if len(free) == 0 || len(hidden) == 0 || len(out.Edges) == api.MaxEdges {
			break
		}
		x := api.Edge{ID: free[0], From: hidden[s.Below(len(hidden))], To: out.Nodes[s.Below(len(out.Nodes))].ID, Type: []string{"T0", "T1", "T2"}[s.Below(3)], Props: s.Props()}
		if s.Below(2) == 0 {
			x.From, x.To = x.To, x.From
		}
		out.Edges, free = append(out.Edges, x), free[1:]
	}
	slices.SortFunc(out.Nodes, func(a, b api.Node) int { return a.ID - b.ID })
	slices.SortFunc(out.Edges, func(a, b api.Edge) int { return a.ID - b.ID })
	return out
}

// freeNumbers are those below Next that neither a node nor an edge has.
func freeNumbers(g api.Graph) []int {
	var l []int
	for id := 1; id < g.Next; id++ {
		if _, e := graph.Prop(g, id, "x"); e == api.ErrWho {
			l = append(l, id)
		}
	}
	return l
}

// hiddenLabels are some that aren't granted.
func hiddenLabels(s *sample.Source, labels []string) []string {
	var l []string
	for _, name := range []string{"L0", "L1", "L2", "L3"} {
		if !slices.Contains(labels, name) && s.Below(2) == 0 {
			l = append(l, name)
		}
	}
	return l
}

func TestWhatIsNotSeenMakesNoDifference(t *testing.T) {
	s, met := sample.New(173), map[string]int{}
	for i := range 3000 {
		l, g, q := s.Grants(), s.Graph(10+i%60), question(s)
		x := l[s.Below(len(l))]
		seen := seenBy(t, l, x.Who, g)
		h := other(s, x.Labels, seen)
		if got := seenBy(t, l, x.Who, h); !alike(got, seen) {
			t.Fatalf("%v of %v: %v, of %v: %v", x, g, seen, h, got)
		}
		told, e := Ask(l, x.Who, q, g)
		if got, f := Ask(l, x.Who, q, h); wrote(got) != wrote(told) || e != f {
			t.Fatalf("%v asks %v of %v: %s, %d, of %v: %s, %d", x, q, g, wrote(told), e, h, wrote(got), f)
		}
		for _, o := range slices.Concat(s.Ops(g, 8), s.Ops(h, 8)) {
			may, _ := May(l, x.Who, g, o)
			if got, e := May(l, x.Who, h, o); got != may || e != api.OK {
				t.Fatalf("%v of %v: %v, of %v: %v, %d: %v", x, g, may, h, got, e, o)
			}
		}
		if e == api.OK && len(told) > 0 && !alike(g, h) {
			met["told"]++
			if all, _ := ask.Ask(q, g); wrote(all) != wrote(told) {
				met["not all"]++
			}
			if all, _ := ask.Ask(q, h); wrote(all) != wrote(told) {
				met["not all of the other"]++
			}
		}
	}
	enough(t, met, 200, "told", "not all", "not all of the other")
}

func TestWhoSeesAllIsToldAll(t *testing.T) {
	s, told := sample.New(174), 0
	for i := range 1500 {
		g, q := s.Graph(5+i%60), question(s)
		for _, l := range [][]api.Grant{only(""), only("L0", ""), append(s.Grants()[:1], only("", "L1")...)} {
			who := l[len(l)-1].Who
			if got := seenBy(t, l, who, g); !alike(got, g) {
				t.Fatalf("%v of %v: %v", l, g, got)
			}
			want, f := ask.Ask(q, g)
			got, e := Ask(l, who, q, g)
			if e != f || wrote(got) != wrote(want) {
				t.Fatalf("%v asks %v of %v: %s, %d, want %s, %d", l, q, g, wrote(got), e, wrote(want), f)
			}
			if kept, e := Kept(l, who, q, g); e != f || len(kept) > 0 {
				t.Fatalf("%v asks %v of %v: %s is kept, %d", l, q, g, wrote(kept), e)
			}
			told += len(want)
		}
	}
	if told < 1000 {
		t.Errorf("only %d rows", told)
	}
}

// What is told and what is kept are all there is; of a question without Agg nobody is told more than that.
func TestToldAndKept(t *testing.T) {
	s, met := sample.New(175), map[string]int{}
	for i := range 4000 {
		l, g, q := s.Grants(), s.Graph(10+i%60), question(s)
		who := l[s.Below(len(l))].Who
		want, f := ask.Ask(q, g)
		told, e := Ask(l, who, q, g)
		kept, k := Kept(l, who, q, g)
		if see, _ := See(l, who, g); e == api.OK {
			if again, _ := ask.Ask(q, see); wrote(told) != wrote(again) {
				t.Fatalf("%s of %v asks %v of %v: %s, want %s", who, l, q, g, wrote(told), wrote(again))
			}
		}
		if f != api.OK {
			if k != f || kept != nil {
				t.Fatalf("%s of %v asks %v of %v: %s is kept, %d, want %d", who, l, q, g, wrote(kept), k, f)
			}
			continue
		}
		sum, a := bag.Add(told, kept, 1)
		if e != api.OK || k != api.OK || a != api.OK || wrote(sum) != wrote(want) {
			t.Fatalf("%s of %v asks %v of %v: %s is told, %d, %s is kept, %d, want %s", who, l, q, g, wrote(told), e, wrote(kept), k, wrote(want))
		}
		less := slices.ContainsFunc(kept, func(c api.Count) bool { return c.N < 0 })
		switch {
		case hasAgg(q) && less:
			met["made of fewer"]++
		case less:
			t.Fatalf("%s of %v asks %v of %v: %s is kept", who, l, q, g, wrote(kept))
		case len(kept) > 0 && len(told) > 0:
			met["some of both"]++
		case len(told) > 0:
			met["nothing kept"]++
		}
	}
	enough(t, met, 100, "made of fewer", "some of both", "nothing kept")
}

// mayByLooking is what May tells, found another way: by what chapter 3 tells of the numbers in what is seen.
func mayByLooking(t *testing.T, labels []string, seen api.Graph, o api.Op) bool {
	t.Helper()
	node := func(id int) bool {
		_, e := graph.Around(seen, id, "", false)
		return e == api.OK
	}
	some := func(id int) bool {
		_, e := graph.Prop(seen, id, "x")
		return e == api.OK
	}
	switch o.Kind {
	case api.AddNode:
		g, _, _, e := txn.Apply(api.Graph{Next: 1}, []api.Op{{Kind: api.AddNode, Labels: o.Labels}})
		if e != api.OK {
			t.Fatal(e)
		}
		return len(byLooking(t, labels, g).Nodes) == 1
	case api.AddEdge:
		return node(o.From) && node(o.To)
	case api.DropEdge:
		return some(o.ID) && !node(o.ID)
	case api.Set:
		return some(o.ID)
	}
	return node(o.ID)
}

func TestMayIsWhatLookingTells(t *testing.T) {
	s, yes, no := sample.New(176), map[int]int{}, map[int]int{}
	for range 3000 {
		l, g := s.Grants(), s.Graph(40)
		x := l[s.Below(len(l))]
		seen := seenBy(t, l, x.Who, g)
		for _, o := range s.Ops(g, 10) {
			got, e := May(l, x.Who, g, o)
			if want := mayByLooking(t, x.Labels, seen, o); e != api.OK || got != want {
				t.Fatalf("%v of %v: %v: %v, %d, want %v", x, g, o, got, e, want)
			}
			if got {
				yes[o.Kind]++
			} else {
				no[o.Kind]++
			}
		}
	}
	for kind := api.AddNode; kind <= api.Untag; kind++ {
		if yes[kind] < 100 || no[kind] < 100 {
			t.Errorf("kind %d: %d may, %d may not", kind, yes[kind], no[kind])
		}
	}
}

// What one may do, if it goes, changes only what one sees; what one may not changes nothing of it.
func TestMayAndWhatIsSeen(t *testing.T) {
	s, met := sample.New(177), map[string]int{}
	for range 6000 {
		l, g := s.Grants(), s.Graph(40)
		who := l[s.Below(len(l))].Who
		for _, o := range s.Ops(g, 6) {
			h, _, _, e := txn.Apply(g, []api.Op{o})
			if e != api.OK {
				continue
			}
			may, _ := May(l, who, g, o)
			before, after := seenBy(t, l, who, g), seenBy(t, l, who, h)
			if may {
				changesWhatIsSeen(t, before, after, g, h)
				met["may"]++
				continue
			}
			d, _ := txn.Between(before, after)
			if len(d.Gone) > 0 || len(d.GoneEdges) > 0 || o.Kind != api.Tag && len(d.New)+len(d.NewEdges) > 0 {
				t.Fatalf("%s of %v: %v of %v: %v", who, l, o, g, d)
			}
			if !reflect.DeepEqual(g.Nodes, h.Nodes) || !reflect.DeepEqual(g.Edges, h.Edges) {
				met["may not"]++
			}
		}
	}
	enough(t, met, 2000, "may", "may not")
}

// changesWhatIsSeen tells that a change has no node or edge that is seen neither ahead nor behind it.
func changesWhatIsSeen(t *testing.T, before, after, g, h api.Graph) {
	t.Helper()
	d, e := txn.Between(g, h)
	if e != api.OK {
		t.Fatal(e)
	}
	for _, n := range slices.Concat(d.Gone, d.New) {
		_, e := graph.Around(before, n.ID, "", false)
		_, f := graph.Around(after, n.ID, "", false)
		if e != api.OK && f != api.OK {
			t.Fatalf("%v, which isn't seen, of %v", n, d)
		}
	}
	for _, x := range slices.Concat(d.GoneEdges, d.NewEdges) {
		_, e := graph.Prop(before, x.ID, "x")
		_, f := graph.Prop(after, x.ID, "x")
		if e != api.OK && f != api.OK {
			t.Fatalf("%v, which isn't seen, of %v", x, d)
		}
	}
}
