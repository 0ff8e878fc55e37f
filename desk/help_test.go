package desk

import (
	"fmt"
	"reflect"
	"slices"
	"strconv"
	"strings"
	"testing"

	"espalier/api"
	"espalier/fresh"
	"espalier/live"
	"espalier/query"
	"espalier/store"
	"espalier/value"
)

// Questions that these tests ask again and again.
const (
	nodes = "match (a) return a as n"
	pairs = "match (a)-[]->(b) return a as a, b as b"
	many  = "match (a) return count(1) as n"
	// steps stands in n*n*n*n ways where a node has n edges to itself: with 6 of them it may, with 7 there are too many.
	steps = "match ()-[]->()-[]->()-[]->()-[]->() return count(1) as n"
)

func commit(l ...api.Op) api.Request { return api.Request{Kind: api.Commit, Ops: l} }

func asking(text string) api.Request { return api.Request{Kind: api.Ask, Text: text} }

func watch(text string) api.Request { return api.Request{Kind: api.Watch, Text: text} }

func join(view int) api.Request { return api.Request{Kind: api.Join, N: view} }

func take(guest int) api.Request { return api.Request{Kind: api.Take, N: guest} }

func crash(came int) api.Request { return api.Request{Kind: api.Crash, N: came} }

func edge(from, to int) api.Op {
	return api.Op{Kind: api.AddEdge, From: from, To: to, Name: "T"}
}

func drop(id int) api.Op { return api.Op{Kind: api.DropNode, ID: id} }

// add is a commit of so many nodes.
func add(n int) api.Request { return commit(slices.Repeat([]api.Op{{Kind: api.AddNode}}, n)...) }

// loops is a commit of so many edges from node 1 to itself.
func loops(n int) api.Request { return commit(slices.Repeat([]api.Op{edge(1, 1)}, n)...) }

// long is a question of at most api.MaxText bytes that has more of them when it is printed, which lays a blank behind each comma.
func long() string {
	list := "[1" + strings.Repeat(",1", api.MaxList-1) + "]"
	lists := "[" + list + strings.Repeat(","+list, 19) + "]"
	return "match (a) return " + lists + " as n," + lists + " as m," + lists + " as k"
}

// told is a desk as a text that no other has: lists that have nothing in them are the same.
func told(d api.Desk) string { return fmt.Sprintf("%#v", fresh.Desk(d)) }

// same tells whether two desks are told alike.
func same(a, b api.Desk) bool { return reflect.DeepEqual(fresh.Desk(a), fresh.Desk(b)) }

// wrote is an answer as a text that no other has, likewise.
func wrote(a api.Answer) string {
	var l []string
	for _, c := range a.Rows {
		r, _ := value.Print(api.Value{Kind: api.List, L: c.R})
		l = append(l, strconv.Itoa(c.N)+"*"+r)
	}
	return fmt.Sprintf("error %d at %d, made %v, %v, fresh %v", a.E, a.At, a.IDs, l, a.Fresh)
}

// read is the bag of a text, with blanks between: of each row how often, `*`, and the row.
func read(text string) api.Bag {
	var b api.Bag
	for _, s := range strings.Fields(text) {
		times, r, _ := strings.Cut(s, "*")
		n, err := strconv.Atoi(times)
		v, _, e := value.Parse(r)
		if err != nil || e != api.OK {
			panic(text)
		}
		b = append(b, api.Count{R: v.L, N: n})
	}
	return b
}

// right tells a desk that must be so.
func right(t *testing.T, d api.Desk) api.Desk {
	t.Helper()
	if e := Check(d); e != api.OK {
		t.Fatalf("%.500s: %d", told(d), e)
	}
	return d
}

// answers holds what a request is answered against what it must be, and tells the desk behind it.
func answers(t *testing.T, d api.Desk, r api.Request, want api.Answer) api.Desk {
	t.Helper()
	out, a, e := Do(d, r)
	if wrote(a) != wrote(want) || e != api.OK {
		t.Fatalf("%v: %.500s, %d, want %.500s", r, wrote(a), e, wrote(want))
	}
	return right(t, out)
}

// refuses tells whether a request isn't done, for that reason.
func refuses(t *testing.T, what string, d api.Desk, r api.Request, want api.Errno, at int) {
	t.Helper()
	out, a, e := Do(d, r)
	if !same(out, api.Desk{}) || wrote(a) != wrote(api.Answer{E: want, At: at}) || e != want {
		t.Errorf("%s: %.200s, %.200s, %d, want %d at %d", what, told(out), wrote(a), e, want, at)
	}
}

// behind is the desk behind requests, all of which go.
func behind(t *testing.T, d api.Desk, l ...api.Request) api.Desk {
	t.Helper()
	for _, r := range l {
		out, a, e := Do(d, r)
		if e != api.OK {
			t.Fatalf("%v: %s, %d", r, wrote(a), e)
		}
		d = right(t, out)
	}
	return d
}

// some is a desk with all that a desk can have. Its store has something laid down, something safe, and two commits and a question that wait; guests 0 and 2 miss something, guest 1 must be told all anew, guest 3 has all.
func some(t *testing.T) api.Desk {
	t.Helper()
	d := behind(t, New(), add(2), watch(nodes), join(0), take(0), join(0))
	s, e := store.Lay(d.S)
	if e != api.OK {
		t.Fatal(e)
	}
	d.S = s
	d = behind(t, d, commit(edge(1, 2)), watch(pairs), join(1), take(2))
	safe := len(d.S.Log.Safe)
	d = behind(t, d, add(1), watch(many), commit(edge(2, 4)), join(2), take(3))
	log := d.S.Log.Safe
	d.S.Log = api.Disk{Safe: log[:safe], Wait: log[safe:]}
	return right(t, d)
}

// of is a desk of a store, with a view of each of its questions, and these guests.
func of(t *testing.T, s api.Store, guests ...api.Guest) api.Desk {
	t.Helper()
	d := api.Desk{S: s, Guests: guests}
	for _, text := range s.Text {
		d.Views = append(d.Views, view(t, text, s.G))
	}
	return d
}

func view(t *testing.T, text string, g api.Graph) api.Hold {
	t.Helper()
	q, at, e := query.Parse(text)
	if e != api.OK {
		t.Fatalf("%s: %d at %d", text, e, at)
	}
	h, e := live.Start(q, g)
	if e != api.OK {
		t.Fatalf("%s: %d", text, e)
	}
	return h
}

// stored is a store that something is done to without a desk: nothing of it is asked of views, and nothing is safe.
func stored(t *testing.T, l ...api.Request) api.Store {
	t.Helper()
	s := store.New()
	for _, r := range l {
		var e api.Errno
		if r.Kind == api.Watch {
			s, e = store.Watch(s, r.Text)
		} else {
			s, _, _, e = store.Commit(s, r.Ops)
		}
		if e != api.OK {
			t.Fatalf("%v: %d", r, e)
		}
	}
	return s
}
