package desk

import (
	"slices"
	"strings"
	"testing"

	"espalier/api"
	"espalier/query"
	"espalier/sample"
	"espalier/store"
)

func TestKinds(t *testing.T) {
	for _, kind := range []int{0, 7, -1, 8, 1<<63 - 1, -1 << 63} {
		refuses(t, "no such kind", New(), api.Request{Kind: kind}, api.ErrRange, 0)
		refuses(t, "no such kind", some(t), api.Request{Kind: kind, Ops: add(1).Ops, Text: nodes, N: 1}, api.ErrRange, 0)
	}
}

// holds tells whether a desk is that of a store, with these guests.
func holds(t *testing.T, what string, d api.Desk, s api.Store, guests ...api.Guest) {
	t.Helper()
	if want := of(t, s, guests...); !same(d, want) {
		t.Errorf("%s: %s, want %s", what, told(d), told(want))
	}
}

// safe is a store with nothing that waits.
func safe(t *testing.T, s api.Store, e api.Errno) api.Store {
	t.Helper()
	s, f := store.Sync(s)
	if e != api.OK || f != api.OK {
		t.Fatalf("%d, %d", e, f)
	}
	return s
}

func TestCommit(t *testing.T) {
	d := answers(t, New(), add(2), api.Answer{At: 1, IDs: []int{1, 2}})
	s, _, _, e := store.Commit(store.New(), add(2).Ops)
	holds(t, "the first", d, safe(t, s, e))
	d = some(t)
	r := commit(api.Op{Kind: api.AddNode}, edge(1, -1), edge(4, 4))
	s, _, _, e = store.Commit(d.S, r.Ops)
	out := answers(t, d, r, api.Answer{At: 5, IDs: []int{6, 7, 8}})
	holds(t, "another", out, safe(t, s, e),
		api.Guest{View: 0, Queue: []api.Bag{read("1*[4]"), read("1*[6]")}, At: 1},
		api.Guest{View: 0, Fresh: true},
		api.Guest{View: 1, Queue: []api.Bag{read("1*[2,4]"), read("1*[1,6] 1*[4,4]")}, At: 2},
		api.Guest{View: 2, Queue: []api.Bag{read("-1*[3] 1*[4]")}, At: 4})
}

// Who misses nothing isn't told of it.
func TestCommitOfNothing(t *testing.T) {
	d := some(t)
	for _, r := range []api.Request{commit(), commit(api.Op{Kind: api.Tag, ID: 1, Name: "A"})} {
		s, _, _, e := store.Commit(d.S, r.Ops)
		holds(t, "nothing", answers(t, d, r, api.Answer{At: 5}), safe(t, s, e), d.Guests...)
	}
}

func TestCommitRefuses(t *testing.T) {
	d := behind(t, New(), add(1), loops(6), watch(nodes), watch(steps))
	for what, c := range map[string]struct {
		l    []api.Op
		want api.Errno
		at   int
	}{
		"nobody goes":                         {[]api.Op{drop(9)}, api.ErrWho, 0},
		"the second one is held":              {[]api.Op{edge(1, 1), drop(1)}, api.ErrHeld, 1},
		"no kind":                             {[]api.Op{{}}, api.ErrRange, 0},
		"too many":                            {slices.Repeat(add(1).Ops, api.MaxOps+1), api.ErrMany, 0},
		"no bytes are told of it":             {[]api.Op{{Kind: api.AddNode, Name: strings.Repeat("a", api.MaxName+1)}}, api.ErrForm, 0},
		"a view would have too many ways":     {[]api.Op{edge(1, 1)}, api.ErrFull, 0},
		"so it would, and the last can't go":  {[]api.Op{edge(1, 1), {Kind: api.AddNode}, drop(99)}, api.ErrWho, 2},
		"a node more, and so it would":        {[]api.Op{{Kind: api.AddNode}, edge(1, 1)}, api.ErrFull, 0},
		"more than the log takes":             {[]api.Op{set(4000), set(4000)}, api.ErrFull, 0},
		"that, and a name that is too long":   {[]api.Op{set(4000), set(4000), {Kind: api.AddNode, Name: strings.Repeat("a", 13)}}, api.ErrForm, 0},
		"that, and the last one has no value": {[]api.Op{set(4000), set(4000), {Kind: api.Set, ID: 1, Name: "x", Value: sample.WrongText()}}, api.ErrForm, 2},
	} {
		refuses(t, what, d, commit(c.l...), c.want, c.at)
	}
	// As many ways as there may be are told.
	answers(t, d, commit(api.Op{Kind: api.AddNode}, edge(1, 8)), api.Answer{At: 3, IDs: []int{8, 9}})
}

// set makes a property of node 1 a text of so many letters.
func set(letters int) api.Op {
	return api.Op{Kind: api.Set, ID: 1, Name: "x", Value: sample.Text(strings.Repeat("a", letters))}
}

func text(letters int) api.Request { return commit(set(letters)) }

// A view's rows may all be others behind a commit: then they differ in more than may be told.
func TestCommitRefusesTooGreatADifference(t *testing.T) {
	d := behind(t, New(), add(1), loops(20), loops(11), watch("match (a)-[e]->()-[f]->() return e as e, f as f, a.x as x"), join(0), take(0))
	out := answers(t, d, text(3), api.Answer{At: 4})
	if u := out.Guests[0]; !u.Fresh {
		t.Errorf("31 times 31 rows go, and as many come: %v", u)
	}
	d = behind(t, d, loops(1))
	refuses(t, "32 times 32 rows go, and as many come", d, text(3), api.ErrFull, 0)
}

// Rows that wait are counted: if too many would, all must be told anew, until it is taken.
func TestGuestsAreToldTooMuch(t *testing.T) {
	d := behind(t, New(), watch(nodes), join(0), take(0), add(20), add(20))
	if u := d.Guests[0]; len(u.Queue) != 2 || u.Fresh {
		t.Errorf("just as many as may wait: %v", u)
	}
	answers(t, d, take(0), api.Answer{At: 2, Rows: numbered(1, 40)})
	for _, l := range [][]api.Request{{commit(drop(1))}, {commit(drop(1)), commit()}, {commit(drop(1)), commit(drop(2)), add(1)}} {
		d := behind(t, d, l...)
		holds(t, "one more", d, d.S, api.Guest{Fresh: true})
		last := d.S.G.Nodes[len(d.S.G.Nodes)-1].ID
		first := d.S.G.Nodes[0].ID
		d = answers(t, d, take(0), api.Answer{At: d.S.At, Rows: numbered(first, last), Fresh: true})
		answers(t, behind(t, d, commit(drop(5))), take(0), api.Answer{At: d.S.At + 1, Rows: read("-1*[5]")})
	}
}

// numbered are rows of a number each, once each.
func numbered(first, last int) api.Bag {
	var b api.Bag
	for i := first; i <= last; i++ {
		b = append(b, api.Count{R: api.Row{sample.Int(i)}, N: 1})
	}
	return b
}

func TestAsk(t *testing.T) {
	for _, d := range []api.Desk{New(), some(t)} {
		for _, c := range []struct {
			text string
			rows []string
		}{
			{nodes, []string{"", "1*[1] 1*[2] 1*[4]"}},
			{many, []string{"1*[0]", "1*[3]"}},
			{" " + pairs + "\n", []string{"", "1*[1,2] 1*[2,4]"}},
			{"match (a)-[*]->(b) where a < 2 return b as b", []string{"", "1*[2] 1*[4]"}},
		} {
			out := answers(t, d, asking(c.text), api.Answer{Rows: read(c.rows[min(d.S.At, 1)])})
			if !same(out, d) {
				t.Errorf("%s: %s, was %s", c.text, told(out), told(d))
			}
		}
		// What is too long to be watched may be asked.
		if _, a, e := Do(d, asking(long())); len(a.Rows) != min(d.S.At, 1) || e != api.OK {
			t.Errorf("%s, %d", wrote(a), e)
		}
	}
}

// wrongTexts are none that may be asked or watched, with where that is told.
func wrongTexts(t *testing.T, d api.Desk, request func(text string) api.Request) {
	t.Helper()
	for _, c := range []struct {
		text string
		want api.Errno
		at   int
	}{
		{"", api.ErrText, 0},
		{"match (a) return", api.ErrText, 16},
		{"match (a)-[]-(b) return a as a", api.ErrText, 12},
		{nodes + ",", api.ErrText, len(nodes) + 1},
		{nodes + "\xff", api.ErrText, len(nodes)},
		{"match (a) return b as n", api.ErrWho, 0},
		{"match (a) return a as n, a as n", api.ErrTwice, 0},
		{"match (a) return type(a) as n", api.ErrKind, 0},
		{nodes + strings.Repeat(" ", api.MaxText), api.ErrMany, 0},
	} {
		refuses(t, c.text, d, request(c.text), c.want, c.at)
	}
}

func TestAskRefuses(t *testing.T) {
	wrongTexts(t, New(), asking)
	wrongTexts(t, some(t), asking)
	d := behind(t, New(), add(1), loops(6))
	answers(t, d, asking(steps), api.Answer{Rows: read("1*[1296]")})
	refuses(t, "too many ways", behind(t, d, loops(1)), asking(steps), api.ErrFull, 0)
}

func TestWatch(t *testing.T) {
	d := behind(t, New(), add(1), loops(6))
	for i, text := range []string{nodes, nodes, "\tmatch(a)return(a)as\nn ", steps, many, pairs}[:api.MaxViews] {
		s, e := store.Watch(d.S, text)
		out := answers(t, d, watch(text), api.Answer{At: i})
		holds(t, text, out, safe(t, s, e))
		d = out
	}
	// What waited is safe, too, and guests are told nothing of it.
	d = some(t)
	s, e := store.Watch(d.S, nodes)
	holds(t, "a fourth", answers(t, d, watch(nodes), api.Answer{At: 3}), safe(t, s, e), d.Guests...)
}

func TestWatchRefuses(t *testing.T) {
	six := behind(t, New(), slices.Repeat([]api.Request{watch(nodes)}, api.MaxViews)...)
	for _, d := range []api.Desk{New(), some(t), six} {
		wrongTexts(t, d, watch)
	}
	refuses(t, "a seventh", six, watch(many), api.ErrFull, 0)
	// This can be read, but no view of it would be right; whatever a call refuses is told ahead of that.
	if _, _, e := query.Parse(long()); e != api.OK {
		t.Fatal(e)
	}
	refuses(t, "too long to be printed", some(t), watch(long()), api.ErrMany, 0)
	refuses(t, "a seventh, too long to be printed", six, watch(long()), api.ErrFull, 0)
	d := behind(t, New(), add(1), loops(7))
	refuses(t, "too many ways", d, watch(steps), api.ErrFull, 0)
	// What the log has no room for.
	d = behind(t, New(), add(1), text(3900), text(3900))
	refuses(t, "no room", d, watch(nodes+strings.Repeat(" ", 200)), api.ErrFull, 0)
	answers(t, d, watch(nodes), api.Answer{})
}

func TestJoin(t *testing.T) {
	d := behind(t, New(), add(1), watch(nodes), watch(many))
	var want []api.Guest
	for i, view := range []int{1, 0, 1, 1}[:api.MaxGuests] {
		want = append(want, api.Guest{View: view, Fresh: true})
		d = answers(t, d, join(view), api.Answer{At: i})
		holds(t, "joined", d, d.S, want...)
	}
	refuses(t, "a fifth", d, join(0), api.ErrFull, 0)
}

func TestJoinRefuses(t *testing.T) {
	for _, d := range []api.Desk{New(), some(t)} {
		for _, n := range []int{-1, len(d.Views), 1<<63 - 1, -1 << 63} {
			refuses(t, "no view", d, join(n), api.ErrWho, 0)
		}
	}
	refuses(t, "a fifth", some(t), join(0), api.ErrFull, 0)
}

func TestTake(t *testing.T) {
	for n, want := range []api.Answer{
		{At: 4, Rows: read("1*[4]")},
		{At: 4, Rows: read("1*[1] 1*[2] 1*[4]"), Fresh: true},
		{At: 4, Rows: read("1*[2,4]")},
		{At: 4},
	} {
		d := some(t)
		out := answers(t, d, take(n), want)
		d.Guests[n] = api.Guest{View: d.Guests[n].View, At: 4}
		holds(t, "taken", out, d.S, d.Guests...)
		holds(t, "taken again", answers(t, out, take(n), api.Answer{At: 4}), d.S, d.Guests...)
	}
	d := behind(t, New(), watch(many), join(0))
	answers(t, d, take(0), api.Answer{Rows: read("1*[0]"), Fresh: true})
}

// What waits is added up: -1 and 1 of a row is none.
func TestTakeAddsUp(t *testing.T) {
	d := behind(t, New(), add(2), watch(many), join(0), take(0), add(1), add(2), commit(drop(1)))
	answers(t, d, take(0), api.Answer{At: 4, Rows: read("-1*[2] 1*[4]")})
	answers(t, behind(t, d, commit(drop(2), drop(3))), take(0), api.Answer{At: 5})
}

func TestTakeRefuses(t *testing.T) {
	for _, d := range []api.Desk{New(), some(t)} {
		for _, n := range []int{-1, len(d.Guests), 1<<63 - 1, -1 << 63} {
			refuses(t, "no guest", d, take(n), api.ErrWho, 0)
		}
	}
	d := some(t)
	d.Guests[2].Queue = []api.Bag{read("1099511627776*[1]"), read("1*[1]")}
	refuses(t, "a row too often", d, take(2), api.ErrRange, 0)
}

func TestCrash(t *testing.T) {
	d := some(t)
	views, goes := map[int]int{}, map[int]int{}
	for n := range len(d.S.Log.Wait) + 1 {
		s, lost, e := store.Crash(d.S, n)
		if e != api.OK {
			t.Fatal(e)
		}
		var want []api.Guest
		for i, at := range []int{1, 0, 2, min(4, s.At)} {
			if view := []int{0, 0, 1, 2}[i]; view < len(s.Text) {
				want = append(want, api.Guest{View: view, At: at, Fresh: true})
			}
		}
		out := answers(t, d, crash(n), api.Answer{At: lost})
		holds(t, "crashed", out, s, want...)
		views[len(out.Views)]++
		goes[len(out.Guests)*10+s.At]++
		again := answers(t, out, crash(0), api.Answer{})
		holds(t, "crashed again", again, s, want...)
	}
	// All that could come about did: nothing, a commit, a question with it, and all of it came to the disk.
	if len(views) != 2 || len(goes) != 4 || goes[32] == 0 || goes[33] == 0 || goes[43] == 0 || goes[44] != 1 {
		t.Errorf("%v, %v", views, goes)
	}
	holds(t, "new", answers(t, New(), crash(0), api.Answer{}), store.New())
}

// A guest that must tell all anew tells what there is then.
func TestTakeBehindACrash(t *testing.T) {
	d := behind(t, some(t), crash(0))
	for n, want := range []string{"1*[1] 1*[2]", "1*[1] 1*[2]", "1*[1,2]"} {
		d = answers(t, d, take(n), api.Answer{At: 2, Rows: read(want), Fresh: true})
	}
	answers(t, behind(t, d, commit(edge(2, 1))), take(2), api.Answer{At: 3, Rows: read("1*[2,1]")})
}

func TestCrashRefuses(t *testing.T) {
	d := some(t)
	for _, n := range []int{-1, len(d.S.Log.Wait) + 1, 1<<63 - 1, -1 << 63} {
		refuses(t, "not so many wait", d, crash(n), api.ErrRange, 0)
	}
	refuses(t, "nothing waits", behind(t, d, commit()), crash(1), api.ErrRange, 0)
	// A store that wasn't at a desk then may have been one that can't be viewed.
	s := stored(t, watch(steps), add(1), loops(7))
	came := len(s.Log.Wait)
	s, _, _, e := store.Commit(s, []api.Op{{Kind: api.DropEdge, ID: 2}})
	if e != api.OK {
		t.Fatal(e)
	}
	d = right(t, of(t, s))
	answers(t, d, crash(len(s.Log.Wait)), api.Answer{})
	for n := range len(s.Log.Wait) {
		if n < came {
			answers(t, d, crash(n), api.Answer{At: n - len(kept(t, s, n))})
		} else {
			refuses(t, "too many ways", d, crash(n), api.ErrFull, 0)
		}
	}
}

// kept is the log of a store that crashed.
func kept(t *testing.T, s api.Store, n int) string {
	t.Helper()
	out, _, e := store.Crash(s, n)
	if e != api.OK {
		t.Fatal(e)
	}
	return out.Log.Safe
}
