package plan

import (
	"slices"
	"testing"

	"espalier/api"
)

// A spot is needed if something behind hangs on it; if all are, nothing is kept in mind.
func TestNeeded(t *testing.T) {
	for _, c := range []struct {
		text  string
		arrow int
		later []string
		want  []int
		all   bool
	}{
		{"(a)-[]->(b)", 0, nil, []int{0}, true},
		{"(a)-[]->(b)", 0, []string{"b"}, []int{0}, true},
		{"(a)-[e]->(b)-[f]->(c)", 1, nil, []int{1}, false},
		{"(a)-[e]->(b)-[f]->(c)", 1, []string{"a"}, []int{0, 1}, false},
		{"(a)-[e]->(b)-[f]->(c)", 1, []string{"e", "c", "f"}, []int{1, 3}, false},
		{"(a)-[e]->(b)-[f]->(c)", 1, []string{"e", "a"}, []int{0, 1, 3}, true},
		{"(a)-[*]->(b)-[f]->(c)", 1, []string{"a"}, []int{0, 1}, true},
		{"(a)-[*]->(b)-[f]->(c)", 1, nil, []int{1}, false},
		{"()-[*]->()-[*]->()-[*]->()", 2, []string{""}, []int{2}, false},
		{"()-[]->()-[*]->()", 1, []string{""}, []int{1}, false},
		{"(a)-[*]->(b)-[*]->(a)-[*]->(c)-[*]->(d)", 3, []string{"a", "b"}, []int{0, 1, 2, 3}, true},
	} {
		f := &finder{q: questionOf(t, c.text)}
		later := map[string]int{}
		for _, name := range c.later {
			later[name]++
		}
		if got, all := f.needed(c.arrow, later); !slices.Equal(got, c.want) || all != c.all {
			t.Errorf("%s, %d, %v: %v, %t, want %v, %t", c.text, c.arrow, c.later, got, all, c.want, c.all)
		}
	}
}

// A visitor that finds nothing is asked once for each that is laid at these spots; one that finds something each time.
func TestUnlessInVain(t *testing.T) {
	f := &finder{way: make([]int, 3)}
	went := map[key]int{}
	visit := f.unlessInVain([]int{2, 0}, func() bool {
		went[key{f.way[2], f.way[0]}]++
		if f.way[0] == 2 {
			f.ways = append(f.ways, nil)
		}
		return f.way[2] < 2
	})
	for i := range 3 * 3 * 3 {
		f.way = []int{i / 3 % 3, i / 9, i % 3}
		if more, vain := visit(), f.way[0] != 2 && i >= 9; more != (vain || f.way[2] < 2) {
			t.Errorf("%v: %t", f.way, more)
		}
	}
	for k, n := range went {
		if want := 1 + 2*(k[1]/2); n != want {
			t.Errorf("%v: %d times, want %d", k, n, want)
		}
	}
	if len(went) != 9 || len(f.ways) != 9 {
		t.Errorf("%v, %d", went, len(f.ways))
	}
}

func TestAskedIsInnermostFirst(t *testing.T) {
	q := questionOf(t, "(a)-[]->(b)")
	p := siftedBy(termOf(t, "a = 3"), siftedBy(termOf(t, "b = 2"), hopped(0, siftedBy(termOf(t, "a = 1"), scanned()))))
	got := bare(2)
	for _, w := range asked(p) {
		got = siftedBy(w, got)
	}
	if s := wrote(t, q, got); s != "scan 0 [(a = 1)] [(b = 2)] [(a = 3)]" {
		t.Error(s)
	}
	if l := asked(bare(2)); len(l) != 0 {
		t.Errorf("%v", l)
	}
}

func TestFindTellsNoMoreThanOneTooMany(t *testing.T) {
	q := questionOf(t, "()-[*]->()-[*]->()-[]->()-[]->()")
	for _, g := range []api.Graph{loops(60), ring()} {
		ways := find(q, bare(5), g)
		if len(ways) != api.MaxRows+1 {
			t.Errorf("%d", len(ways))
		}
		slices.SortFunc(ways, slices.Compare)
		if slices.ContainsFunc(ways, func(w []int) bool { return len(w) != 9 || w[5] != 0 || w[8] < 2 }) || len(slices.CompactFunc(ways, slices.Equal)) != api.MaxRows+1 {
			t.Errorf("%v", ways[:3])
		}
	}
}
