package plan

import (
	"math"
	"testing"

	"espalier/api"
	"espalier/query"
	"espalier/sample"
)

const longest = "(a:P)-[k]->(b)<-[]-(c)-[*]->(a)-[l:K]->(d)"

func TestCheckCountsDots(t *testing.T) {
	q := questionOf(t, longest)
	for _, c := range []struct {
		what string
		p    api.Plan
		want int
	}{
		{"scan", scanned(), 1},
		{"a step", bare(2), 2},
		{"two steps", bare(3), 3},
		{"all", bare(5), 5},
		{"asked at once", siftedBy(termOf(t, "a.x = 1"), scanned()), 1},
		{"asked in between", hopped(1, siftedBy(termOf(t, "a.x = b.x"), bare(2))), 3},
		{"asked again and again", siftedBy(termOf(t, "a = 1"), siftedBy(termOf(t, "true"), siftedBy(termOf(t, "a = 1"), bare(1)))), 1},
		{"an arrow's name", siftedBy(sample.Call("type", sample.Var("k")), bare(2)), 2},
		{"the last arrow's name", siftedBy(sample.Call("type", sample.Var("l")), bare(5)), 5},
		{"what isn't a Bool", siftedBy(termOf(t, "[a, 1]"), bare(1)), 1},
		// Where has no Kind: whatever else it has isn't looked at.
		{"the rest of where", api.Plan{Kind: api.Scan, Where: api.Term{Name: "x", V: sample.Int(3)}}, 1},
		{"empty lists", api.Plan{Kind: api.Scan, From: []api.Plan{}}, 1},
		{"within forty", often(mostAround, scanned()), 1},
		{"within forty, four of them steps", often(mostAround-4, bare(5)), 5},
		{"within forty, steps last", hopped(0, often(mostAround-1, scanned())), 2},
	} {
		if n, e := Check(q, c.p); n != c.want || e != api.OK {
			t.Errorf("%s: %d, %d, want %d", c.what, n, e, c.want)
		}
	}
	if n, e := Check(questionOf(t, "()"), scanned()); n != 1 || e != api.OK {
		t.Errorf("one dot: %d, %d", n, e)
	}
}

// Each of these is refused for a reason that is told ahead of all others that hold of it, too.
func TestCheckRefuses(t *testing.T) {
	q := questionOf(t, longest)
	yes := termOf(t, "true")
	deep := often(mostAround+1, scanned())
	for _, c := range []struct {
		what string
		p    api.Plan
		want api.Errno
	}{
		{"nothing", api.Plan{}, api.ErrForm},
		{"no such kind", api.Plan{Kind: 4}, api.ErrForm},
		{"a kind below 0", api.Plan{Kind: math.MinInt, From: []api.Plan{deep}}, api.ErrForm},
		{"another dot's scan", api.Plan{Kind: api.Scan, N: 1}, api.ErrForm},
		{"scan below 0", api.Plan{Kind: api.Scan, N: -1}, api.ErrForm},
		{"scan of something", api.Plan{Kind: api.Scan, From: []api.Plan{scanned()}}, api.ErrForm},
		{"scan of what is too deep", api.Plan{Kind: api.Scan, From: []api.Plan{deep}}, api.ErrForm},
		{"scan that asks", api.Plan{Kind: api.Scan, Where: yes}, api.ErrForm},
		{"scan that asks nothing right", api.Plan{Kind: api.Scan, Where: api.Term{Kind: -1}}, api.ErrForm},
		{"hop of nothing", api.Plan{Kind: api.Hop}, api.ErrForm},
		{"hop of two", api.Plan{Kind: api.Hop, From: []api.Plan{scanned(), scanned()}}, api.ErrForm},
		{"hop of two that are too deep", api.Plan{Kind: api.Hop, From: []api.Plan{deep, deep}}, api.ErrForm},
		{"hop of what isn't right", hopped(0, api.Plan{}), api.ErrForm},
		{"hop too far", hopped(1, scanned()), api.ErrForm},
		{"hop too short", hopped(0, bare(2)), api.ErrForm},
		{"hop below 0", hopped(-1, scanned()), api.ErrForm},
		{"no such arrow", hopped(4, bare(5)), api.ErrForm},
		{"hop by far", hopped(math.MaxInt, bare(5)), api.ErrForm},
		{"hop that asks", api.Plan{Kind: api.Hop, Where: yes, From: []api.Plan{scanned()}}, api.ErrForm},
		{"sift of nothing", api.Plan{Kind: api.Sift, Where: yes}, api.ErrForm},
		{"sift of two", api.Plan{Kind: api.Sift, Where: yes, From: []api.Plan{scanned(), scanned()}}, api.ErrForm},
		{"sift of what isn't right", siftedBy(termOf(t, "b"), hopped(3, scanned())), api.ErrForm},
		{"sift with a number", api.Plan{Kind: api.Sift, N: 1, Where: termOf(t, "e"), From: []api.Plan{scanned()}}, api.ErrForm},
		{"sift without a term", siftedBy(api.Term{}, scanned()), api.ErrForm},
		{"sift of no such call", siftedBy(sample.Call("nor", sample.Var("a")), scanned()), api.ErrForm},
		{"a name that isn't found yet", siftedBy(termOf(t, "b"), scanned()), api.ErrWho},
		{"a name that isn't found yet, in between", hopped(1, siftedBy(termOf(t, "a = c"), bare(2))), api.ErrWho},
		{"an arrow that isn't found yet", siftedBy(sample.Var("l"), bare(4)), api.ErrWho},
		{"the arrow behind", siftedBy(sample.Var("k"), scanned()), api.ErrWho},
		{"nobody's name", siftedBy(termOf(t, "e"), bare(5)), api.ErrWho},
		{"the name of those without one", siftedBy(sample.Var(""), bare(5)), api.ErrForm},
		{"a node's type", siftedBy(sample.Call("type", sample.Var("a")), bare(2)), api.ErrKind},
		{"too deep a term", siftedBy(sample.Call("not", sample.Call("not", sample.Call("not", sample.Call("not", sample.Call("not", sample.Call("not", yes)))))), scanned()), api.ErrMany},
		{"an error within, then another", hopped(7, siftedBy(termOf(t, "b"), scanned())), api.ErrWho},
		{"within forty-one", deep, api.ErrMany},
		{"within forty-one, with another number", hopped(7, deep), api.ErrMany},
		{"within forty-one, no such kind", often(mostAround+1, api.Plan{}), api.ErrMany},
		{"within forty, no such kind", often(mostAround, api.Plan{}), api.ErrForm},
		{"within forty, of two", often(mostAround, api.Plan{Kind: api.Hop, From: []api.Plan{deep, deep}}), api.ErrForm},
		{"within very many", often(100000, scanned()), api.ErrMany},
	} {
		if n, e := Check(q, c.p); n != 0 || e != c.want {
			t.Errorf("%s: %d, %d, want %d", c.what, n, e, c.want)
		}
		if got, e := Run(q, c.p, api.Graph{}); got != nil || e != c.want {
			t.Errorf("run, %s: %v, %d, want %d", c.what, got, e, c.want)
		}
	}
}

// A question that isn't right is told ahead of all else.
func TestWrongQuestions(t *testing.T) {
	for _, c := range []struct {
		what string
		do   func(q *api.Query)
		want api.Errno
	}{
		{"nothing", func(q *api.Query) { *q = api.Query{} }, api.ErrMany},
		{"two terms in where", func(q *api.Query) { q.Where = append(q.Where, q.Where[0]) }, api.ErrMany},
		{"no items", func(q *api.Query) { q.Items = nil }, api.ErrMany},
		{"an arrow too few", func(q *api.Query) { q.Arrows = nil }, api.ErrForm},
		{"an arrow with a dot's name", func(q *api.Query) { q.Arrows[0].Name = "b" }, api.ErrTwice},
		{"where asks for nobody", func(q *api.Query) { q.Where[0].A[1].Name = "c" }, api.ErrWho},
		{"where asks a node's type", func(q *api.Query) { q.Where[0] = sample.Call("type", sample.Var("a")) }, api.ErrKind},
		{"and of one", func(q *api.Query) { q.Where[0] = sample.Call("and", sample.Var("a")) }, api.ErrForm},
		{"an item that isn't a term", func(q *api.Query) { q.Items[0].T = api.Term{} }, api.ErrForm},
	} {
		q := questionOf(t, "(a)-[e]->(b) where a < b")
		c.do(&q)
		for _, p := range []api.Plan{bare(2), {}, often(99, scanned())} {
			if n, e := Check(q, p); n != 0 || e != c.want {
				t.Errorf("check, %s: %d, %d, want %d", c.what, n, e, c.want)
			}
			if got, e := Run(q, p, api.Graph{}); got != nil || e != c.want {
				t.Errorf("run, %s: %v, %d, want %d", c.what, got, e, c.want)
			}
		}
		for _, early := range []bool{false, true} {
			if p, e := Of(q, early); p.Kind != 0 || p.From != nil || e != c.want {
				t.Errorf("of, %s: %v, %d, want %d", c.what, p, e, c.want)
			}
		}
	}
}

// layers are a plan and those within it, the outermost first; each with one within, but the last.
func layers(p api.Plan) []api.Plan {
	l := []api.Plan{p}
	for len(p.From) == 1 && p.Kind != api.Scan {
		p = p.From[0]
		l = append(l, p)
	}
	return l
}

// byLayers is what Check tells of a plan of a right question, from the inside out.
func byLayers(q api.Query, p api.Plan) (int, api.Errno) {
	l := layers(p)
	last := l[min(len(l)-1, mostAround)]
	for i, x := range l {
		if i > mostAround {
			return 0, api.ErrMany
		}
		if x.Kind < api.Scan || x.Kind > api.Sift || x.Kind != api.Scan && len(x.From) != 1 {
			return 0, api.ErrForm
		}
	}
	if last.N != 0 || len(last.From) != 0 || last.Where.Kind != 0 {
		return 0, api.ErrForm
	}
	dots := 1
	for i := len(l) - 2; i >= 0; i-- {
		x := l[i]
		if x.Kind == api.Hop {
			if x.N != dots-1 || dots == len(q.Dots) || x.Where.Kind != 0 {
				return 0, api.ErrForm
			}
			dots++
			continue
		}
		found := api.Query{Dots: q.Dots[:dots], Arrows: q.Arrows[:dots-1], Where: []api.Term{x.Where}, Items: []api.Item{{Name: "n", T: sample.Const(sample.Int(1))}}}
		if x.N != 0 {
			return 0, api.ErrForm
		}
		if e := query.Check(found); e != api.OK {
			return 0, e
		}
	}
	return dots, api.OK
}

// spoilt is a plan with something else somewhere in it.
func spoilt(s *sample.Source, q api.Query, p api.Plan) api.Plan {
	if len(p.From) == 1 && s.Below(4) > 0 {
		p.From = []api.Plan{spoilt(s, q, p.From[0])}
		return p
	}
	switch s.Below(7) {
	case 0:
		p.Kind = s.Below(5)
	case 1:
		p.N = s.Below(5) - 1
	case 2:
		p.Where = s.Where(q)
	case 3:
		p.Where = sample.Call("type", sample.Var("a"))
	case 4:
		p.From = append([]api.Plan{scanned()}, p.From...)
	case 5:
		p.From = nil
	case 6:
		p = often(s.Below(50), p)
	}
	return p
}

func TestCheckFromTheInsideOut(t *testing.T) {
	s := sample.New(111)
	met := map[api.Errno]int{}
	for range 20000 {
		q := s.Loose()
		p := spoilt(s, q, s.Plan(q))
		if s.Below(3) == 0 {
			p = spoilt(s, q, p)
		}
		want, f := byLayers(q, p)
		got, e := Check(q, p)
		if got != want || e != f {
			t.Fatalf("%v of %v: %d, %d, want %d, %d", p, q, got, e, want, f)
		}
		met[e]++
	}
	for _, e := range []api.Errno{api.OK, api.ErrMany, api.ErrForm, api.ErrWho, api.ErrKind} {
		if met[e] < 50 {
			t.Errorf("error %d: only %d", e, met[e])
		}
	}
}
