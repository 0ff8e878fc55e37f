package reach

import (
	"slices"
	"strconv"
	"testing"

	"espalier/api"
	"espalier/sample"
)

// kinds are all that edges of samples have, any, and one that none has.
func kinds() []string { return []string{"", "T0", "T1", "T2", "T3"} }

// rises tells whether each stands behind the one ahead.
func rises(l [][2]int) bool {
	for i := range l {
		if i > 0 && order(l[i-1], l[i]) >= 0 {
			return false
		}
	}
	return true
}

func allOf(t *testing.T, g api.Graph, kind string) [][2]int {
	t.Helper()
	l, e := All(g, kind)
	if e != api.OK || !rises(l) {
		t.Fatalf("%v, %q: %v, %d", g, kind, l, e)
	}
	return l
}

func TestAllIsAllThatIsReached(t *testing.T) {
	s := sample.New(21)
	told := 0
	for i := range 400 {
		g := s.Graph(i % 50)
		for _, kind := range kinds() {
			got, want := allOf(t, g, kind), byRounds(g, kind)
			for _, p := range got {
				if want[p] != 1 {
					t.Errorf("%v, %q: %v isn't reached", g, kind, p)
				}
			}
			if len(got) != len(want) {
				t.Errorf("%v, %q: %d, want %d", g, kind, len(got), len(want))
			}
			told += len(got)
		}
	}
	if told < 5000 {
		t.Errorf("only %d", told)
	}
}

// Where All has a pair, Path has a way, and nowhere else; it is the one that is found by trying them all.
func TestPathIsTheFirstOfTheShortest(t *testing.T) {
	s := sample.New(22)
	lengths := map[int]int{}
	for i := range 400 {
		g := s.Graph(5 + i%25)
		for _, kind := range kinds() {
			pairs := allOf(t, g, kind)
			for from := range g.Next {
				for to := range g.Next {
					want := byTrying(g, kind, from, to)
					got, e := Path(g, kind, from, to)
					if !slices.Equal(got, want) || (e == api.OK) != slices.Contains(pairs, [2]int{from, to}) || e != api.OK && e != api.ErrWho {
						t.Fatalf("%v, %q, from %d to %d: %v, %d, want %v", g, kind, from, to, got, e, want)
					}
					lengths[len(got)]++
				}
			}
		}
	}
	for n := range 4 {
		if lengths[n] < 200 {
			t.Errorf("%d edges: %d", n, lengths[n])
		}
	}
}

// The greatest graphs: a ring through all nodes, and many ways between two that are all as short.
func TestGreatestGraphs(t *testing.T) {
	ring := drawn(api.MaxNodes)
	for i := range api.MaxNodes {
		ring.Edges = append(ring.Edges, api.Edge{ID: 41 + i, From: i + 1, To: (i+1)%api.MaxNodes + 1, Type: "K"})
	}
	ring.Next = 81
	if l := allOf(t, ring, "K"); len(l) != api.MaxNodes*api.MaxNodes {
		t.Errorf("a ring: %d", len(l))
	}
	for from := 1; from <= api.MaxNodes; from++ {
		if l, e := Path(ring, "", from, from); len(l) != api.MaxNodes || l[0] != 40+from || e != api.OK {
			t.Errorf("round the ring from %d: %v, %d", from, l, e)
		}
	}
	// Twenty steps, each by three edges: more ways than could be tried.
	wide := drawn(21)
	for i := range api.MaxEdges {
		wide.Edges = append(wide.Edges, api.Edge{ID: 22 + i, From: i%20 + 1, To: i%20 + 2, Type: "K"})
	}
	wide.Next = 82
	var want []int
	for i := range 20 {
		want = append(want, 22+i)
	}
	if l, e := Path(wide, "", 1, 21); !slices.Equal(l, want) || e != api.OK {
		t.Errorf("three edges a step: %v, %d", l, e)
	}
}

func TestPairsThatMeet(t *testing.T) {
	s := sample.New(23)
	for i := range 300 {
		g := s.Graph(i % 60)
		for _, kind := range kinds() {
			l := allOf(t, g, kind)
			among := map[[2]int]int{}
			for _, p := range l {
				among[p] = 1
			}
			for _, p := range l {
				for _, q := range l {
					if p[1] == q[0] && among[[2]int{p[0], q[1]}] != 1 {
						t.Fatalf("%v, %q: %v, %v, but not both ends", g, kind, p, q)
					}
				}
			}
		}
	}
}

func TestAnEdgeMoreTakesNothingAway(t *testing.T) {
	s := sample.New(24)
	more := 0
	for i := range 1000 {
		g := s.Graph(2 + i%60)
		if len(g.Nodes) == 0 || len(g.Edges) == api.MaxEdges {
			continue
		}
		h := g
		from, to := g.Nodes[s.Below(len(g.Nodes))].ID, g.Nodes[s.Below(len(g.Nodes))].ID
		h.Edges = append(slices.Clone(g.Edges), api.Edge{ID: g.Next, From: from, To: to, Type: "T" + strconv.Itoa(s.Below(3))})
		h.Next++
		for _, kind := range kinds() {
			gone, fresh, e := Change(g, h, kind)
			if len(gone) != 0 || e != api.OK {
				t.Errorf("%v, and an edge from %d to %d, %q: %v, %d", g, from, to, kind, gone, e)
			}
			gone, back, e := Change(h, g, kind)
			if !slices.Equal(gone, fresh) || len(back) != 0 || e != api.OK {
				t.Errorf("an edge less, %q: %v, %v, %d, want %v", kind, gone, back, e, fresh)
			}
			more += len(fresh)
		}
	}
	if more < 1000 {
		t.Errorf("only %d", more)
	}
}

// What is gone and what is fresh make the pairs of one graph those of the other.
func TestChangeAddsUp(t *testing.T) {
	s := sample.New(25)
	both := 0
	for i := range 500 {
		a, b := s.Graph(i%40), s.Graph(i%45)
		for _, kind := range kinds() {
			gone, fresh, e := Change(a, b, kind)
			if e != api.OK || !rises(gone) || !rises(fresh) {
				t.Fatalf("%v, %v, %d", gone, fresh, e)
			}
			was, is := allOf(t, a, kind), allOf(t, b, kind)
			for _, p := range slices.Concat(was, is, gone, fresh) {
				inA, inB := slices.Contains(was, p), slices.Contains(is, p)
				if slices.Contains(gone, p) != (inA && !inB) || slices.Contains(fresh, p) != (inB && !inA) {
					t.Errorf("%q: %v is in a: %t, in b: %t, gone %v, fresh %v", kind, p, inA, inB, gone, fresh)
				}
			}
			if len(gone) > 0 && len(fresh) > 0 {
				both++
			}
		}
	}
	if both < 200 {
		t.Errorf("only %d", both)
	}
}
