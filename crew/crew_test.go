package crew

import (
	"runtime"
	"slices"
	"strings"
	"sync"
	"testing"

	"espalier/api"
	"espalier/sample"
)

func TestAnswersStandAsTextsDo(t *testing.T) {
	g := sample.Town()
	for _, c := range []struct {
		what string
		l    []string
		want []string
		errs []api.Errno
	}{
		{"none", nil, nil, nil},
		{"one", []string{nodes}, []string{"1*[2] 1*[3] 1*[7] 1*[9]"}, []api.Errno{api.OK}},
		{"two", []string{many, nodes}, []string{"1*[4]", "1*[2] 1*[3] 1*[7] 1*[9]"}, []api.Errno{api.OK, api.OK}},
		{"the same again", []string{many, many, many}, []string{"1*[4]", "1*[4]", "1*[4]"}, []api.Errno{api.OK, api.OK, api.OK}},
		{"no rows", []string{"match (a:Cat) return a as n", many}, []string{"", "1*[4]"}, []api.Errno{api.OK, api.OK}},
		{"a wrong one", []string{""}, []string{""}, []api.Errno{api.ErrText}},
		{"a wrong one ahead", []string{"match", many}, []string{"", "1*[4]"}, []api.Errno{api.ErrText, api.OK}},
		{"a wrong one behind", []string{many, "match"}, []string{"1*[4]", ""}, []api.Errno{api.OK, api.ErrText}},
		{"wrong ones of all kinds", []string{
			"match (a) return",
			many,
			"match (a) return b as b",
			"match (a) return a as n, a as n",
			"match (a:Person) return distinct a as n",
			"match (a) return type(a) as n",
			"match (a) return size() as n",
			strings.Repeat(" ", api.MaxText+1),
			"match (a)-[e]->(b) return type(e) as t",
		}, []string{"", "1*[4]", "", "", "1*[3] 1*[7]", "", "", "", "3*['KNOWS'] 2*['OWNS']"}, []api.Errno{
			api.ErrText, api.OK, api.ErrWho, api.ErrTwice, api.OK, api.ErrKind, api.ErrForm, api.ErrMany, api.OK,
		}},
	} {
		tells(t, c.what, c.l, g, c.want, c.errs)
	}
	tells(t, "nothing there", []string{nodes, many}, api.Graph{Next: 1}, []string{"", "1*[0]"}, []api.Errno{api.OK, api.OK})
}

// One that stands in too many ways is no matter of the others.
func TestOneThatIsFull(t *testing.T) {
	tells(t, "full", []string{many, steps, nodes}, ring(5), []string{"1*[5]", "", "1*[1] 1*[2] 1*[3] 1*[4] 1*[5]"}, []api.Errno{api.OK, api.ErrFull, api.OK})
	tells(t, "not full", []string{steps, many, steps}, ring(4), []string{"1*[1024]", "1*[4]", "1*[1024]"}, []api.Errno{api.OK, api.OK, api.OK})
}

func TestHowManyTexts(t *testing.T) {
	most := slices.Repeat([]string{many, "match", nodes}, api.MaxScript/3)
	want := slices.Repeat([]string{"1*[2]", "", "1*[1] 1*[2]"}, api.MaxScript/3)
	errs := slices.Repeat([]api.Errno{api.OK, api.ErrText, api.OK}, api.MaxScript/3)
	tells(t, "as many as may be", most, ring(2), want, errs)
	for _, g := range []api.Graph{ring(2), {}} {
		one := []api.Errno{api.ErrMany}
		tells(t, "one too many", append(slices.Clone(most), many), g, nil, one)
		tells(t, "one too many, all wrong", make([]string, api.MaxScript+1), g, nil, one)
		tells(t, "many too many", make([]string, 5000), g, nil, one)
	}
}

// What is wrong with a graph is wrong of each text, whatever is wrong with that.
func TestAWrongGraph(t *testing.T) {
	nobody := ring(3)
	nobody.Edges[1].To = 4
	for _, c := range []struct {
		what string
		g    api.Graph
		want api.Errno
	}{
		{"no next", api.Graph{}, api.ErrRange},
		{"a next that stands there", api.Graph{Nodes: sample.Nodes(3), Next: 3}, api.ErrRange},
		{"too many nodes", api.Graph{Nodes: sample.Nodes(api.MaxNodes + 1), Next: 50}, api.ErrMany},
		{"an edge to nobody", nobody, api.ErrWho},
		{"a label that is none", api.Graph{Nodes: []api.Node{{ID: 1, Labels: []string{"a b"}}}, Next: 2}, api.ErrForm},
	} {
		tells(t, c.what+", no texts", nil, c.g, nil, nil)
		tells(t, c.what+", a right text", []string{many}, c.g, []string{""}, []api.Errno{c.want})
		tells(t, c.what+", a wrong text", []string{"match"}, c.g, []string{""}, []api.Errno{c.want})
		tells(t, c.what+", both, and one that is too long", []string{nodes, "match", strings.Repeat(" ", api.MaxText+1), many}, c.g, make([]string, 4), slices.Repeat([]api.Errno{c.want}, 4))
		tells(t, c.what+", as many texts as may be", make([]string, api.MaxScript), c.g, make([]string, api.MaxScript), slices.Repeat([]api.Errno{c.want}, api.MaxScript))
	}
}

// Each has its own bag, also of one text.
func TestBagsAreApart(t *testing.T) {
	bags, _ := Ask([]string{many, many, nodes}, ring(2))
	bags[0][0].R[0].N = 77
	bags[2] = append(bags[2][:1], api.Count{})
	if wrote(bags[1]) != "1*[2]" || bags[0][0].R[0].N != 77 {
		t.Errorf("%v", bags)
	}
}

// A text that takes long doesn't let others be told in its place.
func TestSlowOnesStandWhereTheyStood(t *testing.T) {
	g := ring(8)
	for _, at := range []int{0, 3, 7} {
		l, want := slices.Repeat([]string{many}, 8), slices.Repeat([]string{"1*[8]"}, 8)
		l[at], want[at] = slow, ""
		tells(t, "slow", l, g, want, make([]api.Errno, 8))
	}
}

// There are texts that take so long that several must be seen to be worked on at a time, and none any more at last.
func TestSeveralAtATime(t *testing.T) {
	told := make(chan []api.Errno)
	go func() {
		_, e := Ask(slices.Repeat([]string{slow}, 8), ring(10))
		told <- e
	}()
	most := 0
	for {
		select {
		case e := <-told:
			if most < 3 || !slices.Equal(e, make([]api.Errno, 8)) {
				t.Errorf("at most %d at a time, %v", most, e)
			}
			if n := working(); n > 0 {
				t.Errorf("%d still work", n)
			}
			return
		default:
			most = max(most, working())
		}
	}
}

// working is how many ask at this time.
func working() int {
	all := make([]byte, 1<<20)
	return strings.Count(string(all[:runtime.Stack(all, true)]), "espalier/ask.Text(")
}

// Many may call it at a time, of the same texts and graph.
func TestManyCalls(t *testing.T) {
	l, g := []string{nodes, "match", many, steps}, ring(5)
	var calls sync.WaitGroup
	for range 20 {
		calls.Go(func() {
			tells(t, "one of many", l, g, []string{"1*[1] 1*[2] 1*[3] 1*[4] 1*[5]", "", "1*[5]", ""}, []api.Errno{api.OK, api.ErrText, api.OK, api.ErrFull})
		})
	}
	calls.Wait()
}
