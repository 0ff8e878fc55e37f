package graph

import (
	"reflect"
	"slices"
	"testing"

	"espalier/api"
	"espalier/sample"
)

// Each edge is Around both its nodes, once from and once to, and around no others.
func TestEdgesAreAroundTheirNodes(t *testing.T) {
	s := sample.New(1)
	for i := range 1000 {
		g := s.Graph(i % 120)
		for _, kind := range []string{"", "T0", "T1", "T2", "T3"} {
			from, to := map[int][]int{}, map[int][]int{}
			for _, n := range g.Nodes {
				out, e := Around(g, n.ID, kind, false)
				in, f := Around(g, n.ID, kind, true)
				if e != api.OK || f != api.OK || !slices.IsSorted(out) || !slices.IsSorted(in) {
					t.Fatal(out, e, in, f)
				}
				for _, id := range out {
					from[id] = append(from[id], n.ID)
				}
				for _, id := range in {
					to[id] = append(to[id], n.ID)
				}
			}
			seen := 0
			for _, x := range g.Edges {
				if kind != "" && kind != x.Type {
					continue
				}
				seen++
				if !slices.Equal(from[x.ID], []int{x.From}) || !slices.Equal(to[x.ID], []int{x.To}) {
					t.Errorf("%v: from %v, to %v", x, from[x.ID], to[x.ID])
				}
			}
			if len(from) != seen || len(to) != seen {
				t.Errorf("%d from, %d to, want %d", len(from), len(to), seen)
			}
		}
	}
}

func TestAllThatIsThereIsTold(t *testing.T) {
	s := sample.New(2)
	for i := range 1000 {
		g := s.Graph(i % 120)
		for id := -1; id <= g.Next; id++ {
			l, found := []api.Prop(nil), false
			for _, n := range g.Nodes {
				if n.ID == id {
					l, found = n.Props, true
				}
			}
			for _, x := range g.Edges {
				if x.ID == id {
					l, found = x.Props, true
				}
			}
			for _, name := range []string{"p0", "p1", "p2", "p3", "p4"} {
				want, e := api.Value{}, api.ErrWho
				if found {
					e = api.OK
				}
				for _, p := range l {
					if p.Name == name {
						want = p.Value
					}
				}
				if got, f := Prop(g, id, name); f != e || !reflect.DeepEqual(got, want) {
					t.Errorf("%d, %s: %v, %d, want %v, %d", id, name, got, f, want, e)
				}
			}
		}
	}
}

// rightByPairs is what Check promises of numbers and ends, said of each with each.
func rightByPairs(g api.Graph) bool {
	ids := []int{0}
	known := map[int]int{}
	for i, n := range g.Nodes {
		for _, m := range g.Nodes[:i] {
			if m.ID >= n.ID {
				return false
			}
		}
		ids, known[n.ID] = append(ids, n.ID), 1
	}
	for i, x := range g.Edges {
		for _, y := range g.Edges[:i] {
			if y.ID >= x.ID {
				return false
			}
		}
		if known[x.ID] == 1 || known[x.From] != 1 || known[x.To] != 1 {
			return false
		}
		ids = append(ids, x.ID)
	}
	return slices.Min(append(ids, 0)) == 0 && slices.Index(ids[1:], 0) < 0 && slices.Max(ids) < g.Next && g.Next <= 1<<40
}

func TestCheckByPairs(t *testing.T) {
	s := sample.New(3)
	right, wrong := 0, 0
	for range 20000 {
		g := s.Graph(12)
		for range s.Below(3) {
			number := s.Below(g.Next+4) - 2
			switch n, m := len(g.Nodes), len(g.Edges); {
			case s.Below(4) == 0:
				g.Next = number
			case s.Below(2) == 0 && n > 0:
				g.Nodes[s.Below(n)].ID = number
			case s.Below(3) == 0 && m > 0:
				g.Edges[s.Below(m)].ID = number
			case s.Below(2) == 0 && m > 0:
				g.Edges[s.Below(m)].From = number
			case m > 0:
				g.Edges[s.Below(m)].To = number
			}
		}
		want := rightByPairs(g)
		if got := Check(g); (got == api.OK) != want {
			t.Errorf("%v: %d, want %t", g, got, want)
		}
		if want {
			right++
		} else {
			wrong++
		}
	}
	if right < 2000 || wrong < 2000 {
		t.Errorf("%d right, %d wrong", right, wrong)
	}
}

// spoil overwrites all lists within v, and the room behind them.
func spoil(v api.Value) {
	for _, x := range v.L {
		spoil(x)
	}
	l := v.L[:cap(v.L)]
	for i := range l {
		l[i] = str("spoilt")
	}
}

func TestNothingIsShared(t *testing.T) {
	g := town()
	room := append(make([]api.Node, 0, 9), g.Nodes...)
	g.Nodes = room
	v, e := Prop(g, 3, "likes")
	if e != api.OK {
		t.Fatal(e)
	}
	spoil(v)
	all, e := Labelled(g, "")
	if e != api.OK {
		t.Fatal(e)
	}
	around, e := Around(g, 3, "", false)
	if e != api.OK {
		t.Fatal(e)
	}
	all[0], around[0] = -1, -1
	if !reflect.DeepEqual(g, town()) {
		t.Errorf("what was handed in is changed: %v", g)
	}
	if !reflect.DeepEqual(room[:9][4:], make([]api.Node, 5)) {
		t.Error("the room behind is changed")
	}
}
