package store

import (
	"slices"
	"strings"
	"testing"

	"espalier/api"
	"espalier/pack"
	"espalier/sample"
	"espalier/txn"
)

func TestCommit(t *testing.T) {
	l := []api.Op{addNode(), addNode(), {Kind: api.AddEdge, From: -1, To: -2, Name: "T"}}
	s, made, at, e := Commit(New(), l)
	g, want, _, _ := txn.Apply(New().G, l)
	if !txn.Same(s.G, g) || s.At != 1 || s.Base != "" || s.Log.Safe != "" || s.Text != nil || !slices.Equal(made, want) || at != 0 || e != api.OK {
		t.Errorf("%s, %v, %d, %d", told(s), made, at, e)
	}
	first := s.Log.Wait
	s = watch(t, lay(t, commit(t, watch(t, s, question), addNode())), question+" ")
	before := synced(t, s)
	s, made, at, e = Commit(before, []api.Op{{Kind: api.DropEdge, ID: 3}, addNode()})
	if s.At != 3 || len(s.G.Nodes) != 4 || len(s.G.Edges) != 0 || s.G.Next != 6 || !slices.Equal(made, []int{5}) || at != 0 || e != api.OK {
		t.Errorf("%s, %v, %d, %d", told(s), made, at, e)
	}
	if s.Base != before.Base || s.Log.Safe != before.Log.Safe || s.Log.Wait == "" || !slices.Equal(s.Text, []string{question, question + " "}) {
		t.Errorf("%s", told(s))
	}
	// The record stands behind what waits already.
	two := commit(t, s, addNode())
	if two.Log.Safe != s.Log.Safe || !strings.HasPrefix(two.Log.Wait, s.Log.Wait) || len(two.Log.Wait) == len(s.Log.Wait) {
		t.Errorf("%s", told(two))
	}
	recovered(t, "the first", "", first, api.Store{G: g, At: 1}, len(first))
}

func TestCommitOfNothing(t *testing.T) {
	for _, l := range [][]api.Op{nil, {}} {
		s, made, at, e := Commit(some(t), l)
		if s.At != some(t).At+1 || !txn.Same(s.G, some(t).G) || len(log(s)) <= len(log(some(t))) || len(made) != 0 || at != 0 || e != api.OK {
			t.Errorf("%s, %v, %d, %d", told(s), made, at, e)
		}
	}
}

func TestCommitRefuses(t *testing.T) {
	odd := api.Value{Kind: api.Int, S: "a"}
	for what, c := range map[string]struct {
		l    []api.Op
		at   int
		want api.Errno
	}{
		"nobody goes":                {[]api.Op{{Kind: api.DropNode, ID: 9}}, 0, api.ErrWho},
		"the second one can't go":    {[]api.Op{addNode(), {Kind: api.DropNode, ID: 1}}, 1, api.ErrHeld},
		"no kind":                    {[]api.Op{addNode(), addNode(), {Kind: 8}}, 2, api.ErrRange},
		"too many":                   {slices.Repeat([]api.Op{addNode()}, api.MaxOps+1), 0, api.ErrMany},
		"a name that is none":        {[]api.Op{{Kind: api.Tag, ID: 1, Name: "a b"}}, 0, api.ErrForm},
		"it goes, with a long name":  {[]api.Op{addNode(), {Kind: api.AddNode, Name: letters(api.MaxName + 1)}}, 0, api.ErrForm},
		"it goes, with a wrong text": {[]api.Op{addNode(), {Kind: api.AddNode, Value: wrongText()}}, 0, api.ErrForm},
		"it goes, with many labels":  {[]api.Op{{Kind: api.Untag, ID: 1, Name: "a", Labels: make([]string, api.MaxLabels+1)}}, 0, api.ErrForm},
		"it goes, with many props":   {[]api.Op{{Kind: api.Untag, ID: 1, Name: "a", Props: make([]api.Prop, api.MaxProps+1)}}, 0, api.ErrForm},
		"it goes, with a long label": {[]api.Op{{Kind: api.DropEdge, ID: 3, Labels: []string{letters(api.MaxName + 1)}}}, 0, api.ErrForm},
		"it goes, with an odd value": {[]api.Op{{Kind: api.DropEdge, ID: 3, Props: props(prop("a", odd))}}, 0, api.ErrForm},
		"Apply's error comes first":  {[]api.Op{{Kind: api.AddNode, Value: odd}, {Kind: api.DropNode, ID: 9}}, 1, api.ErrWho},
		"more than the log takes":    {[]api.Op{set("a", 4000), set("b", 4000)}, 0, api.ErrFull},
		"more, and a long name":      {[]api.Op{set("a", 4000), set("b", 4000), {Kind: api.AddNode, Name: letters(13)}}, 0, api.ErrForm},
		"far more":                   {slices.Repeat([]api.Op{set("a", 4000)}, api.MaxOps), 0, api.ErrFull},
	} {
		s, made, at, e := Commit(some(t), c.l)
		if told(s) != told(api.Store{}) || made != nil || at != c.at || e != c.want {
			t.Errorf("%s: %.200s, %v, %d, %d, want %d, %d", what, told(s), made, at, e, c.at, c.want)
		}
	}
}

// left is how many bytes the log has room for.
func left(s api.Store) int { return api.MaxDisk - len(log(s)) }

func TestCommitFillsTheLog(t *testing.T) {
	s := commit(t, New(), addNode())
	s = synced(t, commit(t, s, set("a", 3950)))
	s = commit(t, s, addNode())
	extra := left(s) - left(commit(t, s, set("b", 200))) - 200
	n := left(s) - extra
	full := commit(t, s, set("b", n))
	if left(full) != 0 {
		t.Errorf("%d bytes are left", left(full))
	}
	for _, more := range []int{1, 2, 9} {
		if out, made, at, e := Commit(s, []api.Op{set("b", n+more)}); told(out) != told(api.Store{}) || made != nil || at != 0 || e != api.ErrFull {
			t.Errorf("%.200s, %v, %d, %d", told(out), made, at, e)
		}
	}
	if _, _, _, e := Commit(full, nil); e != api.ErrFull {
		t.Errorf("nothing more: %d", e)
	}
	if _, e := Watch(full, question); e != api.ErrFull {
		t.Errorf("a question more: %d", e)
	}
	if _, _, at, e := Commit(full, []api.Op{{}}); at != 0 || e != api.ErrRange {
		t.Errorf("what can't be done: %d, %d", at, e)
	}
	recovered(t, "full", "", log(full), full, api.MaxDisk)
}

func TestWatch(t *testing.T) {
	s := some(t)
	for i, text := range []string{question, question, " \n" + question + "\t", "match (a:Person)-[:KNOWS]->(b) where a.name = '€\x00\\'' return b.name as name"}[:api.MaxViews-3] {
		out := watch(t, s, text)
		if !slices.Equal(out.Text, append(slices.Clone(s.Text), text)) || !txn.Same(out.G, s.G) || out.At != s.At || out.Base != s.Base || out.Log.Safe != s.Log.Safe || !strings.HasPrefix(out.Log.Wait, s.Log.Wait) {
			t.Errorf("%d: %s", i, told(out))
		}
		s = out
	}
	recovered(t, "all of them", s.Base, log(s), s, len(log(s)))
	base := lay(t, s).Base
	recovered(t, "all of them, laid down", base, "", s, 0)
}

// refusedText tells that a question isn't taken.
func refusedText(t *testing.T, what string, s api.Store, text string, want api.Errno) {
	t.Helper()
	if out, e := Watch(s, text); told(out) != told(api.Store{}) || e != want {
		t.Errorf("%s: %.200s, %d, want %d", what, told(out), e, want)
	}
}

func TestWatchRefuses(t *testing.T) {
	six := New()
	for range api.MaxViews {
		six = watch(t, six, question)
	}
	for _, s := range []api.Store{some(t), six} {
		refusedText(t, "nothing", s, "", api.ErrText)
		refusedText(t, "half of one", s, "match (a) return", api.ErrText)
		refusedText(t, "a wrong text", s, "match (a) return '\xff' as n", api.ErrText)
		refusedText(t, "a byte that is no word", s, question+"\xff", api.ErrText)
		refusedText(t, "no such name", s, "match (a) return b as n", api.ErrWho)
		refusedText(t, "a name twice", s, "match (a) return a as n, a as n", api.ErrTwice)
		refusedText(t, "too long", s, long(api.MaxText+1), api.ErrMany)
	}
	refusedText(t, "a seventh", six, question, api.ErrFull)
	refusedText(t, "a seventh, laid down", lay(t, six), question, api.ErrFull)
}

func TestWatchFillsTheLog(t *testing.T) {
	s := watch(t, New(), long(api.MaxText))
	extra := left(s) - left(watch(t, s, long(200))) - 200
	n := left(s) - extra
	if left(watch(t, s, long(n))) != 0 {
		t.Errorf("%d bytes", n)
	}
	refusedText(t, "a byte too long", s, long(n+1), api.ErrFull)
	refusedText(t, "as long as may be", s, long(api.MaxText), api.ErrFull)
	refusedText(t, "too long, and no room", s, long(api.MaxText+1), api.ErrMany)
	// In a log that begins anew there is room again, but not for all of it to be laid down.
	s = lay(t, watch(t, s, long(n-100)))
	s = watch(t, s, long(1000))
	if out, e := Lay(s); told(out) != told(api.Store{}) || e != api.ErrFull {
		t.Errorf("%.200s, %d", told(out), e)
	}
}

func TestSync(t *testing.T) {
	for _, s := range []api.Store{New(), some(t), lay(t, some(t)), synced(t, some(t))} {
		out := synced(t, s)
		if plain(out) != plain(s) || out.Base != s.Base || out.Log.Safe != log(s) || out.Log.Wait != "" {
			t.Errorf("%s, was %s", told(out), told(s))
		}
	}
}

func TestLay(t *testing.T) {
	for _, s := range []api.Store{New(), some(t), lay(t, some(t)), synced(t, some(t)), commit(t, New())} {
		out := lay(t, s)
		if plain(out) != plain(s) || out.Base == "" || out.Log != (api.Disk{}) {
			t.Errorf("%s, was %s", told(out), told(s))
		}
		recovered(t, "laid down", out.Base, "", s, 0)
		if again := lay(t, out); told(again) != told(out) {
			t.Errorf("%s, was %s", told(again), told(out))
		}
		for n := range len(out.Base) {
			torn(t, "cut", "x"+out.Base[:n])
		}
	}
	// What is laid down hangs on what the store has, not on how it came to it.
	if a, b := lay(t, some(t)).Base, lay(t, lay(t, synced(t, some(t)))).Base; a != b {
		t.Errorf("%q, %q", a, b)
	}
}

func TestLayFillsTheDisk(t *testing.T) {
	s := lay(t, watch(t, commit(t, New(), addNode(), set("a", 3950)), question))
	s = lay(t, commit(t, s, set("b", 3500)))
	room := api.MaxDisk - len(s.Base)
	full := commit(t, s, set("b", 3500+room))
	if down := lay(t, full); len(down.Base) != api.MaxDisk {
		t.Errorf("%d bytes", len(down.Base))
	}
	for _, more := range []int{1, 2, 9} {
		over := commit(t, s, set("b", 3500+room+more))
		if out, e := Lay(over); told(out) != told(api.Store{}) || e != api.ErrFull {
			t.Errorf("%d more: %.200s, %d", more, told(out), e)
		}
		if out := synced(t, over); plain(out) != plain(over) {
			t.Errorf("%d more: %.200s", more, told(out))
		}
	}
}

func TestCrash(t *testing.T) {
	s := some(t)
	wait := len(s.Log.Wait)
	last, lost, e := Crash(s, wait)
	if plain(last) != plain(s) || last.Base != s.Base || last.Log != (api.Disk{Safe: log(s)}) || lost != 0 || e != api.OK {
		t.Errorf("all of it: %s, %d, %d", told(last), lost, e)
	}
	first, lost, e := Crash(s, 0)
	if first.At != 2 || len(first.Text) != 2 || len(first.G.Edges) != 1 || first.G.Nodes[1].Labels != nil || first.Base != s.Base || first.Log != (api.Disk{Safe: s.Log.Safe}) || lost != 0 || e != api.OK {
		t.Errorf("nothing of it: %s, %d, %d", told(first), lost, e)
	}
	for n := range wait + 1 {
		out, lost, e := Crash(s, n)
		want, less, f := Recover(s.Base, log(s)[:len(s.Log.Safe)+n])
		if told(out) != told(want) || lost != less || e != f || e != api.OK {
			t.Errorf("%d: %s, %d, %d, want %s, %d, %d", n, told(out), lost, e, told(want), less, f)
		}
	}
	for _, n := range []int{-1, wait + 1, -1 << 63, 1<<63 - 1, len(log(s))} {
		if out, lost, e := Crash(s, n); told(out) != told(api.Store{}) || lost != 0 || e != api.ErrRange {
			t.Errorf("%d: %s, %d, %d", n, told(out), lost, e)
		}
	}
	for _, n := range []int{-1, 1} {
		if _, _, e := Crash(synced(t, s), n); e != api.ErrRange {
			t.Errorf("nothing waits, %d: %d", n, e)
		}
	}
}

// A store that isn't right is told ahead of all else.
func TestAllRefuseWrongStores(t *testing.T) {
	graph, many, base, form := some(t), some(t), some(t), some(t)
	graph.G.Edges[0].To = 9
	many.Log.Wait += letters(api.MaxDisk)
	base.Base = base.Base[1:]
	form.At++
	for want, s := range map[api.Errno]api.Store{api.ErrWho: graph, api.ErrMany: many, api.ErrTorn: base, api.ErrForm: form} {
		nothing := told(api.Store{})
		if e := Check(s); e != want {
			t.Errorf("Check: %d, want %d", e, want)
		}
		for _, l := range [][]api.Op{nil, {addNode()}, {addNode(), {}}, make([]api.Op, api.MaxOps+1), {{Kind: api.AddNode, Name: letters(13)}}} {
			if out, made, at, e := Commit(s, l); told(out) != nothing || made != nil || at != 0 || e != want {
				t.Errorf("Commit: %s, %v, %d, %d, want %d", told(out), made, at, e, want)
			}
		}
		refusedText(t, "Watch", s, question, want)
		refusedText(t, "Watch", s, "", want)
		if out, e := Sync(s); told(out) != nothing || e != want {
			t.Errorf("Sync: %s, %d, want %d", told(out), e, want)
		}
		if out, e := Lay(s); told(out) != nothing || e != want {
			t.Errorf("Lay: %s, %d, want %d", told(out), e, want)
		}
		for _, n := range []int{0, -1, 1 << 40} {
			if out, lost, e := Crash(s, n); told(out) != nothing || lost != 0 || e != want {
				t.Errorf("Crash: %s, %d, %d, want %d", told(out), lost, e, want)
			}
		}
	}
}

// What stands on the disk takes little more than what it tells.
func TestBytesOnTheDisk(t *testing.T) {
	src := sample.New(150)
	for i := range 300 {
		s := New()
		for range i % 8 {
			l := src.Ops(s.G, 6)
			if out, _, _, e := Commit(s, l); e == api.OK {
				b, _ := pack.Ops(l)
				if n := len(log(out)) - len(log(s)); n < 1 || n > len(b)+32 {
					t.Errorf("a commit of %d bytes takes %d", len(b), n)
				}
				s = out
			}
		}
		questions := 0
		for k := range i % (api.MaxViews + 1) {
			text := long(len(question) + k*k)
			out := watch(t, s, text)
			if n := len(log(out)) - len(log(s)); n < 1 || n > len(text)+32 {
				t.Errorf("a question of %d bytes takes %d", len(text), n)
			}
			s, questions = out, questions+len(text)
		}
		g, _ := pack.Graph(s.G)
		if n := len(lay(t, s).Base); n > len(g)+questions+64+4*len(s.Text) {
			t.Errorf("a graph of %d bytes, and %d questions of %d, take %d", len(g), len(s.Text), questions, n)
		}
	}
}
