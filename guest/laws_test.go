package guest

import (
	"slices"
	"testing"

	"espalier/api"
	"espalier/bag"
	"espalier/live"
	"espalier/query"
	"espalier/sample"
	"espalier/txn"
)

// went is a bag that is answered without an error.
func went(t *testing.T, b api.Bag, e api.Errno) api.Bag {
	t.Helper()
	if e != api.OK {
		t.Fatal(e)
	}
	return b
}

// seat is a guest, and what whoever adds up what it takes has.
type seat struct {
	u    api.Guest
	has  api.Bag
	seen map[string]int
}

// tell tells the guest what differs: it waits behind the others, or all goes.
func (x *seat) tell(t *testing.T, d api.Bag) {
	t.Helper()
	u, e := Tell(x.u, d)
	waits := 0
	for _, b := range x.u.Queue {
		waits += len(b)
	}
	want := x.u
	switch {
	case x.u.Fresh || len(d) == 0:
	case waits+len(d) <= api.MaxQueue:
		want.Queue = append(slices.Clone(want.Queue), d)
	default:
		want.Queue, want.Fresh = nil, true
		x.seen["too much"]++
	}
	if tells(t, "told", u, e, want); t.Failed() {
		t.FailNow()
	}
	x.u = u
}

// take takes what waits, and adds it up, beginning anew where it is told so.
func (x *seat) take(t *testing.T, all api.Bag, at int) {
	t.Helper()
	u, b, anew, e := Take(x.u, all, at)
	if e != api.OK || anew != x.u.Fresh || told(u) != told(api.Guest{View: x.u.View, At: at}) {
		t.Fatalf("%s, %d rows, %v, %d, was %s", told(u), len(b), anew, e, told(x.u))
	}
	switch {
	case anew:
		x.has = nil
		x.seen["anew"]++
	case len(x.u.Queue) > 1:
		x.seen["several"]++
	case len(x.u.Queue) == 0:
		x.seen["nothing"]++
	}
	x.has, e = bag.Add(x.has, b, 1)
	if e != api.OK || wrote(x.has) != wrote(all) {
		t.Fatalf("%s, %d, want %s", wrote(x.has), e, wrote(all))
	}
	x.u = u
}

// enough tells whether all that matters came about so often.
func enough(t *testing.T, seen map[string]int, least int, words ...string) {
	t.Helper()
	for _, k := range words {
		if seen[k] < least {
			t.Errorf("%s: %d", k, seen[k])
		}
	}
}

// Who adds up what he takes has what there is, whatever the differences are.
func TestWhatIsTakenAddsUp(t *testing.T) {
	s, seen := sample.New(161), map[string]int{}
	for i := range 400 {
		all := s.Bag(20, 0, 2)
		seats := []seat{
			{api.Guest{View: i % 3, Fresh: true}, s.Bag(9, 0, 2), seen},
			{api.Guest{View: i % 3}, all, seen},
		}
		for at := range 40 {
			d := s.Bag([]int{0, 2, 6, 20, 60}[s.Below(5)], 0, 2)
			sum, e := bag.Add(all, d, 1)
			all = went(t, sum, e)
			for k := range seats {
				seats[k].tell(t, d)
				if s.Below(6) == 0 {
					seats[k].take(t, all, at+1)
				}
			}
		}
	}
	enough(t, seen, 300, "too much", "anew", "several", "nothing")
}

// desk is a graph, a view of it, and guests of that.
type desk struct {
	g     api.Graph
	h     api.Hold
	at    int
	seats []seat
}

// commit changes the graph; all guests are told what differs. It tells whether that went.
func (x *desk) commit(t *testing.T, s *sample.Source) bool {
	t.Helper()
	after, _, _, e := txn.Apply(x.g, s.Ops(x.g, 6))
	if s.Below(10) == 0 {
		after, e = s.Graph(90), api.OK
	}
	if e != api.OK {
		return false
	}
	out, d, e := live.Step(x.h, x.g, after)
	if e != api.OK {
		return false
	}
	x.g, x.h, x.at = after, out, x.at+1
	for k := range x.seats {
		x.seats[k].tell(t, d)
	}
	return true
}

// Who adds up what he takes has what the question tells of the graph.
func TestGuestsOfViews(t *testing.T) {
	s, seen, commits := sample.New(162), map[string]int{}, 0
	for _, text := range []string{
		"match (a) return a as a",
		"match (a) return a.p0 as x, a as a",
		"match (a:L0) return count(a) as n",
		"match (a)-[e]->(b) return a as a, b.p1 as x",
		"match (a)-[*]->(b) return a as a, b as b",
		"match (a)-[*]->(b) return distinct a as a",
	} {
		q, _, e := query.Parse(text)
		if e != api.OK {
			t.Fatal(e)
		}
		for range 12 {
			x := desk{g: s.Graph(30)}
			h, e := live.Start(q, x.g)
			if e != api.OK {
				t.Fatal(e)
			}
			x.h = h
			first, e := live.Rows(h, x.g)
			x.seats = []seat{{api.Guest{Fresh: true}, nil, seen}, {api.Guest{}, went(t, first, e), seen}}
			for range 60 {
				if x.commit(t, s) {
					commits++
				}
				if k := s.Below(8); k < len(x.seats) {
					all, e := live.Rows(x.h, x.g)
					x.seats[k].take(t, went(t, all, e), x.at)
				}
			}
		}
	}
	if commits < 1000 {
		t.Errorf("%d commits", commits)
	}
	enough(t, seen, 50, "too much", "anew", "several", "nothing")
}

// What waits is added up in any order, and as if it had come at once.
func TestTakeIsASum(t *testing.T) {
	s, gone := sample.New(163), 0
	for range 3000 {
		u := s.Guest()
		if u.Fresh {
			continue
		}
		var want api.Bag
		rows := 0
		for _, b := range u.Queue {
			sum, e := bag.Add(want, b, 1)
			want = went(t, sum, e)
			rows += len(b)
		}
		_, got, anew, e := Take(u, nil, u.At)
		if e != api.OK || wrote(got) != wrote(want) || bag.Check(got) != api.OK || anew {
			t.Fatalf("%s: %s, %v, %d, want %s", told(u), wrote(got), anew, e, wrote(want))
		}
		slices.Reverse(u.Queue)
		_, back, _, e := Take(u, nil, u.At)
		if e != api.OK || wrote(back) != wrote(got) {
			t.Fatalf("%s: %s, %d, want %s", told(u), wrote(back), e, wrote(got))
		}
		gone += rows - len(got)
	}
	if gone < 1000 {
		t.Errorf("only %d rows meet", gone)
	}
}
