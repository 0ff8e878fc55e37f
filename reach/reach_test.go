package reach

import (
	"slices"
	"testing"

	"espalier/api"
	"espalier/sample"
)

func TestAll(t *testing.T) {
	line := drawn(4, []int{1, 2}, []int{2, 3}, []int{3, 4, 0})
	ring := drawn(4, []int{1, 2}, []int{2, 3}, []int{3, 1})
	for _, c := range []struct {
		what string
		g    api.Graph
		kind string
		want [][2]int
	}{
		{"nothing", api.Graph{Next: 1}, "", nil},
		{"nodes alone", drawn(3), "", nil},
		{"a line", line, "", [][2]int{{1, 2}, {1, 3}, {1, 4}, {2, 3}, {2, 4}, {3, 4}}},
		{"a line, of a type", line, "K", [][2]int{{1, 2}, {1, 3}, {2, 3}}},
		{"its end, of a type", line, "L", [][2]int{{3, 4}}},
		{"of a type that no edge has", line, "M", nil},
		{"of a type in other letters", line, "k", nil},
		{"of what is no type", line, "no name", nil},
		{"a ring, and one beside it", ring, "", [][2]int{{1, 1}, {1, 2}, {1, 3}, {2, 1}, {2, 2}, {2, 3}, {3, 1}, {3, 2}, {3, 3}}},
		{"a loop", drawn(2, []int{2, 2}), "", [][2]int{{2, 2}}},
		{"to a loop", drawn(2, []int{1, 2}, []int{2, 2}), "", [][2]int{{1, 2}, {2, 2}}},
		{"from a loop", drawn(2, []int{1, 1}, []int{1, 2}), "", [][2]int{{1, 1}, {1, 2}}},
		{"two edges, told once", drawn(2, []int{1, 2}, []int{1, 2}), "", [][2]int{{1, 2}}},
		{"there and back", drawn(2, []int{2, 1}, []int{1, 2}), "", [][2]int{{1, 1}, {1, 2}, {2, 1}, {2, 2}}},
		{"against the numbers", drawn(3, []int{3, 2}, []int{2, 1}), "", [][2]int{{2, 1}, {3, 1}, {3, 2}}},
		{"types by turns", drawn(3, []int{1, 2}, []int{2, 3, 0}), "K", [][2]int{{1, 2}}},
		{"a town", sample.Town(), "KNOWS", [][2]int{{3, 3}, {3, 7}, {7, 3}, {7, 7}}},
		{"a town, of all", sample.Town(), "", [][2]int{{3, 2}, {3, 3}, {3, 7}, {7, 2}, {7, 3}, {7, 7}}},
	} {
		if got, e := All(c.g, c.kind); !slices.Equal(got, c.want) || e != api.OK {
			t.Errorf("%s: %v, %d, want %v", c.what, got, e, c.want)
		}
	}
}

func TestPath(t *testing.T) {
	square := drawn(4, []int{1, 3}, []int{1, 2}, []int{2, 4}, []int{3, 4}, []int{3, 4}, []int{4, 1, 0})
	long := drawn(4, []int{1, 2}, []int{2, 3}, []int{3, 4}, []int{1, 4, 0})
	// The way by 2 ends with a lesser number, that by 3 begins with one.
	late := drawn(5, []int{2, 4}, []int{3, 4}, []int{1, 3}, []int{1, 2}, []int{4, 5})
	for _, c := range []struct {
		what     string
		g        api.Graph
		kind     string
		from, to int
		want     []int
	}{
		{"one edge", square, "", 1, 2, []int{6}},
		{"two ways: the first edge decides", square, "", 1, 4, []int{5, 8}},
		{"the first edge decides, not the last", late, "", 1, 5, []int{8, 7, 10}},
		{"two edges: the lesser", square, "", 3, 4, []int{8}},
		{"round the ring", square, "", 1, 1, []int{5, 8, 10}},
		{"round the ring, from its midst", square, "", 4, 4, []int{10, 5, 8}},
		{"the ring is no way for a type", square, "K", 1, 4, []int{5, 8}},
		{"fewest, though their numbers are greater", long, "", 1, 4, []int{8}},
		{"of a type, the long way", long, "K", 1, 4, []int{5, 6, 7}},
		{"of the other type", long, "L", 1, 4, []int{8}},
		{"a loop", drawn(1, []int{1, 1}, []int{1, 1}), "", 1, 1, []int{2}},
		{"a loop isn't gone round", drawn(2, []int{1, 1}, []int{1, 2}), "", 1, 2, []int{4}},
		{"loops on the way aren't gone round", drawn(3, []int{1, 2}, []int{2, 2}, []int{2, 3}), "", 1, 3, []int{4, 6}},
		{"a town", sample.Town(), "", 7, 2, []int{4, 1}},
		{"a town, to itself", sample.Town(), "", 3, 3, []int{11, 4}},
		{"a town, by another type", sample.Town(), "OWNS", 3, 7, []int{12}},
	} {
		if got, e := Path(c.g, c.kind, c.from, c.to); !slices.Equal(got, c.want) || e != api.OK {
			t.Errorf("%s: %v, %d, want %v", c.what, got, e, c.want)
		}
	}
}

func TestPathTellsWho(t *testing.T) {
	for _, c := range []struct {
		what     string
		kind     string
		from, to int
	}{
		{"from nobody", "", 1, 2},
		{"to nobody", "", 3, 6},
		{"from an edge", "", 4, 3},
		{"to an edge", "", 7, 11},
		{"from 0", "", 0, 3},
		{"to 0", "", 3, 0},
		{"below 0", "", -7, -3},
		{"the least, the greatest", "", -1 << 63, 1<<63 - 1},
		{"nobody to itself", "", 6, 6},
		{"not to itself", "", 2, 2},
		{"not to itself, alone", "", 9, 9},
		{"against the edge", "", 2, 3},
		{"from one without edges", "", 9, 3},
		{"to one without edges", "", 3, 9},
		{"of the other type alone", "KNOWS", 3, 2},
		{"not round by one type", "OWNS", 3, 3},
		{"of no type", "no name", 7, 3},
	} {
		if got, e := Path(sample.Town(), c.kind, c.from, c.to); got != nil || e != api.ErrWho {
			t.Errorf("%s: %v, %d", c.what, got, e)
		}
	}
}

func TestChange(t *testing.T) {
	none, one, two := drawn(3), drawn(3, []int{1, 2}), drawn(3, []int{1, 2}, []int{2, 3})
	ring := drawn(3, []int{3, 1}, []int{1, 2, 0}, []int{2, 3})
	for _, c := range []struct {
		what        string
		a, b        api.Graph
		kind        string
		gone, fresh [][2]int
	}{
		{"nothing", none, none, "", nil, nil},
		{"of no graph", api.Graph{Next: 1}, api.Graph{Next: 7}, "", nil, nil},
		{"the same", two, two, "", nil, nil},
		{"an edge more", one, two, "", nil, [][2]int{{1, 3}, {2, 3}}},
		{"an edge less", two, one, "", [][2]int{{1, 3}, {2, 3}}, nil},
		{"all of it", none, two, "", nil, [][2]int{{1, 2}, {1, 3}, {2, 3}}},
		{"a ring is closed", two, ring, "", nil, [][2]int{{1, 1}, {2, 1}, {2, 2}, {3, 1}, {3, 2}, {3, 3}}},
		{"some go, some come", two, ring, "K", [][2]int{{1, 2}, {1, 3}}, [][2]int{{2, 1}, {3, 1}}},
		{"of a type", two, ring, "L", nil, [][2]int{{1, 2}}},
		{"of a type that no edge has", two, ring, "M", nil, nil},
		{"another way stays", drawn(2, []int{1, 2}, []int{1, 2}), drawn(2, []int{1, 2}), "", nil, nil},
		{"other nodes", two, sample.Town(), "OWNS", nil, [][2]int{{3, 2}, {3, 7}}},
		{"nodes go", sample.Town(), api.Graph{Next: 1}, "OWNS", [][2]int{{3, 2}, {3, 7}}, nil},
	} {
		gone, fresh, e := Change(c.a, c.b, c.kind)
		if !slices.Equal(gone, c.gone) || !slices.Equal(fresh, c.fresh) || e != api.OK {
			t.Errorf("%s: %v, %v, %d, want %v, %v", c.what, gone, fresh, e, c.gone, c.fresh)
		}
	}
}

// A graph that isn't right is told ahead of all else, and nothing is told of it.
func TestWrongGraphs(t *testing.T) {
	for want, g := range wrongs() {
		if l, e := All(g, "OWNS"); l != nil || e != want {
			t.Errorf("All: %v, %d, want %d", l, e, want)
		}
		for _, to := range []int{2, 3, 0} {
			if l, e := Path(g, "", 3, to); l != nil || e != want {
				t.Errorf("Path to %d: %v, %d, want %d", to, l, e, want)
			}
		}
		for other, h := range wrongs() {
			if gone, fresh, e := Change(g, h, ""); gone != nil || fresh != nil || e != want {
				t.Errorf("Change of two, the second's %d: %v, %v, %d, want %d", other, gone, fresh, e, want)
			}
		}
		if gone, fresh, e := Change(g, sample.Town(), ""); gone != nil || fresh != nil || e != want {
			t.Errorf("Change of the first: %v, %v, %d, want %d", gone, fresh, e, want)
		}
		if gone, fresh, e := Change(sample.Town(), g, ""); gone != nil || fresh != nil || e != want {
			t.Errorf("Change of the second: %v, %v, %d, want %d", gone, fresh, e, want)
		}
	}
}
