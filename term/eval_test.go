package term

import (
	"strings"
	"testing"

	"espalier/api"
	"espalier/sample"
)

func TestEvalRefuses(t *testing.T) {
	bad := town()
	bad.Next = 1
	worse := api.Graph{Nodes: make([]api.Node, 41)}
	a, nobody := variable("a"), variable("nobody")
	many30, ids30 := sample.Names(api.MaxList+1), make([]int, api.MaxList+1)
	for _, c := range []struct {
		what  string
		g     api.Graph
		names []string
		ids   []int
		t     api.Term
		want  api.Errno
	}{
		{"a graph that isn't right", bad, []string{"a"}, []int{2}, a, api.ErrRange},
		{"a graph that isn't right, and all else wrong", bad, []string{"a", "a"}, []int{99}, nobody, api.ErrRange},
		{"too great a graph", worse, nil, nil, num1(), api.ErrMany},
		{"too few ids", town(), []string{"a", "b"}, []int{2}, a, api.ErrMany},
		{"too few names", town(), []string{"a"}, []int{2, 3}, a, api.ErrMany},
		{"no ids", town(), []string{"a"}, nil, a, api.ErrMany},
		{"no names", town(), nil, []int{2}, num1(), api.ErrMany},
		{"too few, and twice", town(), []string{"a", "a"}, []int{2}, a, api.ErrMany},
		{"too many", town(), many30, ids30, num1(), api.ErrMany},
		{"too many, and twice", town(), make([]string, 31), ids30, num1(), api.ErrMany},
		{"twice", town(), []string{"a", "a"}, []int{2, 3}, a, api.ErrTwice},
		{"twice for the same", town(), []string{"a", "b", "a"}, []int{2, 3, 2}, a, api.ErrTwice},
		{"twice for nobody", town(), []string{"a", "a"}, []int{2, 99}, a, api.ErrTwice},
		{"nobody, then twice", town(), []string{"a", "b", "b"}, []int{2, 99, 2}, a, api.ErrWho},
		{"nobody twice", town(), []string{"a", "a"}, []int{99, 99}, a, api.ErrWho},
		{"nobody", town(), []string{"a"}, []int{6}, a, api.ErrWho},
		{"0", town(), []string{"a"}, []int{0}, a, api.ErrWho},
		{"below 0", town(), []string{"a"}, []int{-2}, a, api.ErrWho},
		{"Next", town(), []string{"a"}, []int{13}, a, api.ErrWho},
		{"nobody, and a wrong term", town(), []string{"a"}, []int{99}, api.Term{}, api.ErrWho},
		{"twice, and a wrong term", town(), []string{"a", "a"}, []int{2, 2}, api.Term{}, api.ErrTwice},
		{"no term", town(), []string{"a"}, []int{2}, api.Term{}, api.ErrForm},
		{"a name that isn't bound", town(), []string{"a"}, []int{2}, nobody, api.ErrWho},
		{"no names are bound", town(), nil, nil, a, api.ErrWho},
	} {
		if v, e := Eval(c.g, c.names, c.ids, c.t); e != c.want || !alike(v, null) {
			t.Errorf("%s: %v, %d, want %d", c.what, v, e, c.want)
		}
	}
}

func TestEvalTakes(t *testing.T) {
	for _, c := range []struct {
		what  string
		g     api.Graph
		names []string
		ids   []int
		t     api.Term
		want  api.Value
	}{
		{"nothing", api.Graph{Next: 1}, nil, nil, num1(), num(1)},
		{"nothing, but not nil", api.Graph{Next: 1}, []string{}, []int{}, num1(), num(1)},
		{"two names of one node", town(), []string{"b", "a"}, []int{2, 2}, apply("=", variable("a"), variable("b")), yes},
		{"names that can't be said", town(), []string{"", "null", "1", strings.Repeat("z", 5000), "a"}, []int{2, 3, 7, 9, 12}, variable("a"), num(12)},
		{"a node that has an edge's place", town(), []string{"a", "b"}, []int{3, 4}, apply("list", apply("type", variable("b")), variable("a")), list(str("KNOWS"), num(3))},
		{"as many as may be", api.Graph{Nodes: sample.Nodes(40), Next: 41}, sample.Names(api.MaxList), count(api.MaxList), variable("n29"), num(30)},
	} {
		if v, e := Eval(c.g, c.names, c.ids, c.t); e != api.OK || !alike(v, c.want) {
			t.Errorf("%s: %v, %d, want %v", c.what, v, e, c.want)
		}
	}
}

// count is the numbers from 1 on.
func count(n int) []int {
	var l []int
	for i := range n {
		l = append(l, i+1)
	}
	return l
}
