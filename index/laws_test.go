package index

import (
	"maps"
	"slices"
	"strings"
	"testing"

	"espalier/api"
	"espalier/graph"
	"espalier/sample"
	"espalier/txn"
	"espalier/value"
)

// Names that samples may have; some of them never.
var (
	labelsAsked = []string{"L0", "L1", "L2", "L3", "L4", "L5", "L6"}
	propsAsked  = []string{"p0", "p1", "p2", "p3", "p4", "p5", "p6", "p7", "p8"}
)

// seen is what chapter 3 tells of a graph, as entries are told; each value at the first node that has it.
func seen(t *testing.T, g api.Graph) string {
	t.Helper()
	var out []string
	for _, label := range labelsAsked {
		with, e := graph.Labelled(g, label)
		if e != api.OK {
			t.Fatal(e)
		}
		if len(with) > 0 {
			out = append(out, label+":"+ids(with))
		}
		for _, name := range propsAsked {
			out = append(out, seenValues(g, with, label, name)...)
		}
	}
	return strings.Join(out, " ")
}

func seenValues(g api.Graph, with []int, label, name string) []string {
	values, holders := map[string]api.Value{}, map[string][]int{}
	for _, id := range with {
		if v, _ := graph.Prop(g, id, name); v.Kind != api.Null {
			values[written(v)] = v
			holders[written(v)] = append(holders[written(v)], id)
		}
	}
	var out []string
	for _, key := range slices.SortedFunc(maps.Keys(values), func(a, b string) int { return value.Order(values[a], values[b]) }) {
		out = append(out, label+"."+name+"="+key+":"+ids(holders[key]))
	}
	return out
}

func TestEntriesAreWhatIsSeen(t *testing.T) {
	s := sample.New(131)
	several, shared := 0, 0
	for i := range 800 {
		g := s.Graph(i % 120)
		l, e := Of(g)
		if want := seen(t, g); e != api.OK || told(l) != want {
			t.Fatalf("%v: %s, %d, want %s", g, told(l), e, want)
		}
		for i, x := range l {
			if x.Prop == "" {
				continue
			}
			if len(x.IDs) > 1 {
				shared++
			}
			if l[i-1].Prop == x.Prop {
				several++
			}
		}
	}
	if several < 1000 || shared < 300 {
		t.Errorf("%d behind another value, %d of more than one node", several, shared)
	}
}

// Find tells the nodes that have what is asked for, and Count how many these are.
func TestFindAndCountTellTheNodes(t *testing.T) {
	s := sample.New(132)
	some, none := 0, 0
	for i := range 1500 {
		g := s.Graph(i % 100)
		l := entriesOf(t, g)
		labels, many, e := Count(g)
		if e != api.OK || !slices.IsSorted(labels) || len(labels) != len(many) {
			t.Fatalf("%v: %v, %v, %d", g, labels, many, e)
		}
		for _, label := range labelsAsked {
			want, _ := graph.Labelled(g, label)
			got, e := Find(l, label, "", s.Value(2))
			at, found := slices.BinarySearch(labels, label)
			if e != api.OK || !slices.Equal(got, want) || found != (len(want) > 0) || found && many[at] != len(want) {
				t.Fatalf("%s of %v: %v, %d, want %v; %v, %v", label, g, got, e, want, labels, many)
			}
			name, v := propsAsked[s.Below(4)], s.Value(1)
			want = slices.DeleteFunc(want, func(id int) bool {
				has, _ := graph.Prop(g, id, name)
				return v.Kind == api.Null || value.Order(has, v) != 0
			})
			if got, e := Find(l, label, name, v); e != api.OK || !slices.Equal(got, want) {
				t.Fatalf("%s.%s=%s of %v: %v, %d, want %v", label, name, written(v), g, got, e, want)
			}
			if len(want) > 0 {
				some++
			} else {
				none++
			}
		}
	}
	if some < 200 || none < 200 {
		t.Errorf("%d found, %d not", some, none)
	}
}

// Entries that are kept by steps are those of the graph; those of any other time are refused.
func TestStepsKeepEntriesCurrent(t *testing.T) {
	s := sample.New(133)
	steps, other := 0, 0
	for range 200 {
		a := s.Graph(60)
		l := entriesOf(t, a)
		for range 10 {
			b, _, _, e := txn.Apply(a, s.Ops(a, 6))
			if e != api.OK {
				continue
			}
			m, e := Step(l, a, b)
			if e != api.OK || told(m) != seen(t, b) {
				t.Fatalf("%v, then %v: %s, %d", a, b, told(m), e)
			}
			if told(m) != told(l) {
				other++
				if x, e := Step(l, b, a); x != nil || e != api.ErrForm {
					t.Fatalf("%v, of the entries of %v: %v, %d", b, a, x, e)
				}
			}
			back, e := Step(m, b, a)
			if e != api.OK || told(back) != told(l) {
				t.Fatalf("%v, then back to %v: %s, %d", b, a, told(back), e)
			}
			a, l = b, m
			steps++
		}
	}
	if steps < 1000 || other < 500 {
		t.Errorf("%d steps, %d of them to others", steps, other)
	}
}
