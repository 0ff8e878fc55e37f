package grant

import (
	"reflect"
	"strconv"
	"strings"
	"testing"

	"espalier/api"
	"espalier/fresh"
	"espalier/query"
	"espalier/sample"
	"espalier/value"
)

// townGrants are some of which each sees another part of the town: all, two people, the dog, nothing.
func townGrants() []api.Grant {
	return []api.Grant{
		{Who: "ann", Labels: []string{""}},
		{Who: "bob", Labels: []string{"Person"}},
		{Who: "cid", Labels: []string{"Pet", "Cat", "Dog"}},
		{Who: "eve"},
	}
}

// only is a grant of these labels to x.
func only(labels ...string) []api.Grant { return []api.Grant{{Who: "x", Labels: labels}} }

// asked is the question of a text.
func asked(t *testing.T, text string) api.Query {
	t.Helper()
	q, at, e := query.Parse(text)
	if e != api.OK {
		t.Fatalf("%s: %d at %d", text, e, at)
	}
	return q
}

// wrote is a bag as a text: of each row how often, `*`, and the row as a list.
func wrote(b api.Bag) string {
	var l []string
	for _, c := range b {
		r, e := value.Print(api.Value{Kind: api.List, L: c.R})
		if e != api.OK {
			r = "error " + strconv.Itoa(int(e))
		}
		l = append(l, strconv.Itoa(c.N)+"*"+r)
	}
	return strings.Join(l, " ")
}

// numbers are those of a graph's nodes, then those of its edges, with `;` between.
func numbers(g api.Graph) string {
	var nodes, edges []string
	for _, n := range g.Nodes {
		nodes = append(nodes, strconv.Itoa(n.ID))
	}
	for _, x := range g.Edges {
		edges = append(edges, strconv.Itoa(x.ID))
	}
	return strings.Join(nodes, " ") + ";" + strings.Join(edges, " ")
}

// alike tells whether two graphs are the same: lists that have nothing in them are.
func alike(a, b api.Graph) bool { return reflect.DeepEqual(fresh.Graph(a), fresh.Graph(b)) }

// seenBy is what of a graph is seen.
func seenBy(t *testing.T, l []api.Grant, who string, g api.Graph) api.Graph {
	t.Helper()
	out, e := See(l, who, g)
	if e != api.OK {
		t.Fatalf("%v, %s: %d", l, who, e)
	}
	return out
}

// refuses tells that all calls have that error, with nothing beside it.
func refuses(t *testing.T, what string, l []api.Grant, who string, q api.Query, g api.Graph, want api.Errno) {
	t.Helper()
	if got, e := See(l, who, g); e != want || !reflect.DeepEqual(got, api.Graph{}) {
		t.Errorf("See, %s: %s, %d, want %d", what, numbers(got), e, want)
	}
	for kind := range 9 {
		for _, id := range []int{0, 2, 3, 99} {
			o := api.Op{Kind: kind, ID: id, From: id, To: id, Labels: []string{"Person"}}
			if may, e := May(l, who, g, o); e != want || may {
				t.Errorf("May, %s, %v: %v, %d, want %d", what, o, may, e, want)
			}
		}
	}
	refusesToTell(t, what, l, who, q, g, want, want)
}

// refusesToTell tells that Ask has that error, and Kept that other one, with nothing beside it.
func refusesToTell(t *testing.T, what string, l []api.Grant, who string, q api.Query, g api.Graph, want, kept api.Errno) {
	t.Helper()
	if got, e := Ask(l, who, q, g); e != want || got != nil && e != api.OK {
		t.Errorf("Ask, %s: %s, %d, want %d", what, wrote(got), e, want)
	}
	if got, e := Kept(l, who, q, g); e != kept || got != nil {
		t.Errorf("Kept, %s: %s, %d, want %d", what, wrote(got), e, kept)
	}
}

// wrongTowns are graphs that aren't right, by the error that chapter 3's Check tells of them.
func wrongTowns() map[api.Errno]api.Graph {
	form, who, many, reach := sample.Town(), sample.Town(), sample.Town(), sample.Town()
	form.Nodes[3].ID = 7
	who.Edges[0].To = 1
	many.Nodes[3].Props = sample.Numbered(api.MaxProps + 1)
	reach.Next = 12
	return map[api.Errno]api.Graph{api.ErrForm: form, api.ErrWho: who, api.ErrMany: many, api.ErrRange: reach}
}
