package graph

import (
	"reflect"
	"slices"
	"strconv"
	"strings"
	"testing"

	"espalier/api"
)

func TestProp(t *testing.T) {
	null := api.Value{}
	for _, c := range []struct {
		id   int
		name string
		want api.Value
		e    api.Errno
	}{
		{2, "age", num(3), api.OK},
		{2, "name", str("Rex"), api.OK},
		{3, "likes", list(num(1), list(str("a"), null)), api.OK},
		{1, "since", num(2020), api.OK},
		{2, "since", null, api.OK},
		{1, "age", null, api.OK},
		{9, "age", null, api.OK},
		{4, "since", null, api.OK},
		{2, "", null, api.OK},
		{2, "no name", null, api.OK},
		{2, "ag", null, api.OK},
		{2, "AGE", null, api.OK},
		{2, "Dog", null, api.OK},
		{0, "age", null, api.ErrWho},
		{-1, "age", null, api.ErrWho},
		{6, "age", null, api.ErrWho},
		{13, "age", null, api.ErrWho},
		{1<<63 - 1, "", null, api.ErrWho},
	} {
		if got, e := Prop(town(), c.id, c.name); !reflect.DeepEqual(got, c.want) || e != c.e {
			t.Errorf("%d, %q: %v, %d, want %v, %d", c.id, c.name, got, e, c.want, c.e)
		}
	}
}

func TestLabelled(t *testing.T) {
	for label, want := range map[string][]int{
		"": {2, 3, 7, 9}, "Person": {3, 7}, "Dog": {2}, "Pet": {2},
		"Perso": nil, "person": nil, "KNOWS": nil, "age": nil, "1": nil, "no name": nil,
	} {
		if got, e := Labelled(town(), label); !slices.Equal(got, want) || e != api.OK {
			t.Errorf("%q: %v, %d, want %v", label, got, e, want)
		}
	}
	for _, label := range []string{"", "A"} {
		if got, e := Labelled(api.Graph{Next: 1}, label); len(got) != 0 || e != api.OK {
			t.Errorf("of nothing: %v, %d", got, e)
		}
	}
}

// Of a node that isn't right, too: a label that no node may have is one like any other, and every node has "".
func TestHasLabel(t *testing.T) {
	for label, want := range map[string]string{"": "2 3 7 9", "Person": "3 7", "Dog": "2", "Perso": "", "person": ""} {
		var got []string
		for _, n := range town().Nodes {
			if HasLabel(n, label) {
				got = append(got, strconv.Itoa(n.ID))
			}
		}
		if strings.Join(got, " ") != want {
			t.Errorf("%q: %v, want %s", label, got, want)
		}
	}
	wrong := api.Node{Labels: []string{"b", "a", "1", ""}}
	if !HasLabel(wrong, "a") || !HasLabel(wrong, "1") || !HasLabel(wrong, "") || HasLabel(wrong, "c") {
		t.Error("a node that isn't right")
	}
}

func TestAround(t *testing.T) {
	for _, c := range []struct {
		id   int
		kind string
		in   bool
		want []int
		e    api.Errno
	}{
		{2, "", false, nil, api.OK},
		{2, "", true, []int{1}, api.OK},
		{3, "", false, []int{1, 11, 12}, api.OK},
		{3, "", true, []int{4}, api.OK},
		{3, "OWNS", false, []int{1, 12}, api.OK},
		{3, "KNOWS", false, []int{11}, api.OK},
		{7, "", false, []int{4, 5}, api.OK},
		{7, "", true, []int{5, 11, 12}, api.OK},
		{7, "KNOWS", true, []int{5, 11}, api.OK},
		{7, "OWNS", false, nil, api.OK},
		{7, "knows", false, nil, api.OK},
		{7, "no name", false, nil, api.OK},
		{9, "", false, nil, api.OK},
		{9, "", true, nil, api.OK},
		{1, "", false, nil, api.ErrWho},
		{11, "", true, nil, api.ErrWho},
		{0, "", false, nil, api.ErrWho},
		{-7, "", true, nil, api.ErrWho},
		{13, "", true, nil, api.ErrWho},
	} {
		if got, e := Around(town(), c.id, c.kind, c.in); !slices.Equal(got, c.want) || e != c.e {
			t.Errorf("%d, %q, %t: %v, %d, want %v, %d", c.id, c.kind, c.in, got, e, c.want, c.e)
		}
	}
}

// A graph that isn't right is told ahead of all else, and nothing is told of it.
func TestLookRefuses(t *testing.T) {
	form, who, many, reach := town(), town(), town(), town()
	form.Nodes[0].ID = 0
	who.Edges[4].To = 1
	many.Edges[4].Props = numbered(7)
	reach.Next = 12
	for want, g := range map[api.Errno]api.Graph{api.ErrForm: form, api.ErrWho: who, api.ErrMany: many, api.ErrRange: reach} {
		for _, id := range []int{3, 0, 99} {
			if v, e := Prop(g, id, "likes"); !reflect.DeepEqual(v, api.Value{}) || e != want {
				t.Errorf("Prop of %d: %v, %d, want %d", id, v, e, want)
			}
			for _, in := range []bool{false, true} {
				if l, e := Around(g, id, "", in); l != nil || e != want {
					t.Errorf("Around %d: %v, %d, want %d", id, l, e, want)
				}
			}
		}
		if l, e := Labelled(g, "Person"); l != nil || e != want {
			t.Errorf("Labelled: %v, %d, want %d", l, e, want)
		}
	}
}
