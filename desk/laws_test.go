package desk

import (
	"testing"

	"espalier/api"
	"espalier/ask"
	"espalier/bag"
	"espalier/query"
	"espalier/sample"
	"espalier/store"
)

// seat is what must be told to a guest, reckoned without one.
type seat struct {
	view, at int
	has      api.Bag // what its view told when it took at last
	sum      api.Bag // what it took, summed up
	waits    int     // rows
	anew     bool
}

// story is a desk, and what it must tell, reckoned without views: all is asked anew of a store.
type story struct {
	t       *testing.T
	src     *sample.Source
	d       api.Desk
	s       api.Store
	seats   []seat
	script  []api.Request
	answers []string
	seen    map[string]int
}

func begin(t *testing.T, seed int, seen map[string]int) *story {
	return &story{t: t, src: sample.New(seed), d: New(), s: store.New(), seen: seen}
}

// note counts what came about.
func (y *story) note(what string, holds bool) {
	if holds {
		y.seen[what]++
	}
}

// request is one more: at times of any question, or of a commit that goes and makes much.
func (y *story) request() api.Request {
	r := y.src.Request(y.s.G, len(y.s.Text), len(y.seats))
	switch y.src.Below(3) {
	case 0:
		if r.Kind == api.Ask || r.Kind == api.Watch {
			r.Text, _ = query.Print(y.src.Loose())
		}
	case 1:
		if r.Kind == api.Commit {
			r.Ops = y.burst()
		}
	}
	return r
}

// burst are many nodes, or many edges, that are added.
func (y *story) burst() []api.Op {
	var l []api.Op
	all := y.s.G.Nodes
	for range y.src.Below(api.MaxOps) {
		if len(all) < 2 || len(all) < 30 && y.src.Below(3) == 0 {
			l = append(l, api.Op{Kind: api.AddNode, Labels: []string{"L0"}})
		} else {
			l = append(l, edge(all[y.src.Below(len(all))].ID, all[y.src.Below(len(all))].ID))
		}
	}
	return l
}

// step makes one more request, and holds what comes of it against what must.
func (y *story) step(r api.Request) {
	y.t.Helper()
	want := y.reckon(r)
	out, a, e := Do(y.d, r)
	if wrote(a) != wrote(want) || a.E != e {
		y.t.Fatalf("%v: %s, %d, want %s", r, wrote(a), e, wrote(want))
	}
	y.script, y.answers = append(y.script, r), append(y.answers, wrote(a))
	if e == api.OK {
		y.d = right(y.t, out)
	} else if !same(out, api.Desk{}) {
		y.t.Fatalf("%v: %s beside the error %d", r, told(out), e)
	}
	y.meets()
	if r.Kind == api.Take && e == api.OK {
		y.sumUp(r.N, a)
	}
}

// meets tells whether the desk has what was reckoned.
func (y *story) meets() {
	y.t.Helper()
	if want := of(y.t, y.s, y.d.Guests...); !same(y.d, want) || len(y.d.Guests) != len(y.seats) {
		y.t.Fatalf("%s, want %s and %d guests", told(y.d), told(want), len(y.seats))
	}
	for i, u := range y.d.Guests {
		x, waits := y.seats[i], 0
		for _, b := range u.Queue {
			waits += len(b)
		}
		if u.View != x.view || u.At != x.at || u.Fresh != x.anew || waits != x.waits {
			y.t.Fatalf("%v, want %v", u, x)
		}
	}
}

// sumUp adds up what a guest took: it must be what the question tells.
func (y *story) sumUp(n int, a api.Answer) {
	y.t.Helper()
	x := &y.seats[n]
	sum, e := Sum(x.sum, a.Rows, a.Fresh)
	if wrote(api.Answer{Rows: sum}) != wrote(api.Answer{Rows: y.rows(x.view)}) || e != api.OK {
		y.t.Fatalf("%v, %d, want %v", sum, e, y.rows(x.view))
	}
	x.sum = sum
}

// rows are what a question tells now.
func (y *story) rows(view int) api.Bag {
	y.t.Helper()
	b, _, e := ask.Text(y.s.Text[view], y.s.G)
	if e != api.OK {
		y.t.Fatal(e)
	}
	return b
}

// reckon is what a request must be answered.
func (y *story) reckon(r api.Request) api.Answer {
	switch r.Kind {
	case api.Commit:
		return y.commit(r)
	case api.Ask:
		b, at, e := ask.Text(r.Text, y.s.G)
		y.note("asked", e == api.OK)
		return api.Answer{E: e, At: at, Rows: b}
	case api.Watch:
		return y.watch(r)
	case api.Join:
		return y.join(r)
	case api.Take:
		return y.take(r)
	case api.Crash:
		return y.crash(r)
	}
	y.note("no kind", true)
	return api.Answer{E: api.ErrRange}
}

func (y *story) commit(r api.Request) api.Answer {
	s, made, at, e := store.Commit(y.s, r.Ops)
	if e != api.OK {
		y.note("refused", true)
		return api.Answer{E: e, At: at}
	}
	var differ []int
	for view, text := range s.Text {
		now, _, e := ask.Text(text, s.G)
		d, f := bag.Add(now, y.rows(view), -1)
		if e != api.OK || f != api.OK {
			y.note("too much for a view", true)
			return api.Answer{E: api.ErrFull}
		}
		differ = append(differ, len(d))
	}
	for i := range y.seats {
		x := &y.seats[i]
		if !x.anew {
			x.waits += differ[x.view]
			x.anew = x.waits > api.MaxQueue
			y.note("too much for a guest", x.anew)
		}
		if x.anew {
			x.waits = 0
		}
	}
	y.s, _ = store.Sync(s)
	y.note("done", true)
	return api.Answer{At: s.At, IDs: made}
}

func (y *story) watch(r api.Request) api.Answer {
	if _, at, e := ask.Text(r.Text, y.s.G); e != api.OK {
		y.note("not watched", true)
		return api.Answer{E: e, At: at}
	}
	s, e := store.Watch(y.s, r.Text)
	if e != api.OK {
		y.note("no room for a view", true)
		return api.Answer{E: e}
	}
	y.s, _ = store.Sync(s)
	y.note("watched", true)
	return api.Answer{At: len(s.Text) - 1}
}

func (y *story) join(r api.Request) api.Answer {
	if r.N < 0 || r.N >= len(y.s.Text) {
		y.note("no view", true)
		return api.Answer{E: api.ErrWho}
	}
	if len(y.seats) == api.MaxGuests {
		y.note("no seat", true)
		return api.Answer{E: api.ErrFull}
	}
	y.seats = append(y.seats, seat{view: r.N, anew: true})
	y.note("joined", true)
	return api.Answer{At: len(y.seats) - 1}
}

func (y *story) take(r api.Request) api.Answer {
	if r.N < 0 || r.N >= len(y.seats) {
		y.note("no guest", true)
		return api.Answer{E: api.ErrWho}
	}
	x := &y.seats[r.N]
	now := y.rows(x.view)
	a := api.Answer{At: y.s.At, Rows: now, Fresh: x.anew}
	if !x.anew {
		b, e := bag.Add(now, x.has, -1)
		if e != api.OK {
			y.t.Fatal(e)
		}
		a.Rows = b
		y.note("something waits", len(b) > 0)
		y.note("nothing comes of what waits", len(b) == 0 && x.waits > 0)
	}
	y.note("taken anew", x.anew)
	x.at, x.has, x.waits, x.anew = y.s.At, now, 0, false
	return a
}

func (y *story) crash(r api.Request) api.Answer {
	s, lost, e := store.Crash(y.s, r.N)
	if e != api.OK {
		y.note("not so many", true)
		return api.Answer{E: e}
	}
	for _, text := range s.Text {
		if _, _, e := ask.Text(text, s.G); e != api.OK {
			return api.Answer{E: e}
		}
	}
	var seats []seat
	for _, x := range y.seats {
		y.note("a guest goes", x.view >= len(s.Text))
		y.note("a guest is later", x.at > s.At)
		if x.view < len(s.Text) {
			seats = append(seats, seat{view: x.view, at: min(x.at, s.At), sum: x.sum, anew: true})
		}
	}
	y.note("crashed", true)
	y.note("lost", s.At < y.s.At)
	y.note("bytes lost", lost > 0)
	y.s, y.seats = s, seats
	return api.Answer{At: lost}
}

// enough tells whether all that matters came about so often.
func enough(t *testing.T, seen map[string]int, least map[string]int) {
	t.Helper()
	for what, n := range least {
		if seen[what] < n {
			t.Errorf("%s: %d", what, seen[what])
		}
	}
}

// opening is how half of the scripts begin, so that there are guests of views of which much is told.
func opening(seed int) []api.Request {
	if seed%2 == 0 {
		return nil
	}
	return []api.Request{watch("match (a)-[*]->(b) return a as a, b as b"), watch("match (a:L0) return id(a) as a"), join(0), join(1), take(0), take(1)}
}

// Run tells of every script what Do tells, request by request, and what is reckoned.
func TestScripts(t *testing.T) {
	seen := map[string]int{}
	for seed := range 30 {
		y := begin(t, 1900+seed, seen)
		for _, r := range opening(seed) {
			y.step(r)
		}
		for len(y.script) < api.MaxScript {
			y.step(y.request())
		}
		d, l, e := Run(y.script)
		if !same(d, y.d) || len(l) != len(y.answers) || e != api.OK {
			t.Fatalf("%s, %d answers, %d, want %s", told(d), len(l), e, told(y.d))
		}
		for i, a := range l {
			if wrote(a) != y.answers[i] {
				t.Fatalf("%v: %s, want %s", y.script[i], wrote(a), y.answers[i])
			}
		}
	}
	enough(t, seen, map[string]int{"done": 300, "refused": 80, "asked": 80, "watched": 80, "joined": 50, "something waits": 25, "taken anew": 60, "crashed": 25, "no kind": 8, "no guest": 40, "no view": 15, "no seat": 15, "no room for a view": 10, "not watched": 10, "too much for a view": 5, "too much for a guest": 8, "not so many": 5})
}

// So it is of a desk of which not all is safe.
func TestDesksThatCrash(t *testing.T) {
	seen := map[string]int{}
	for seed := range 30 {
		y := begin(t, 2100+seed, seen)
		for _, r := range opening(seed) {
			y.step(r)
		}
		for range api.MaxScript {
			r := y.request()
			if y.src.Below(12) == 0 {
				log := y.s.Log.Safe + y.s.Log.Wait
				cut := y.src.Below(len(log) + 1)
				y.s.Log = api.Disk{Safe: log[:cut], Wait: log[cut:]}
				y.d.S.Log = y.s.Log
				r = api.Request{Kind: api.Crash, N: y.src.Below(len(log) - cut + 2)}
			}
			y.step(r)
		}
	}
	enough(t, seen, map[string]int{"crashed": 80, "lost": 50, "bytes lost": 50, "a guest is later": 20, "a guest goes": 10, "not so many": 8, "taken anew": 60, "something waits": 8})
}
