package plan

import (
	"strings"
	"testing"

	"espalier/api"
	"espalier/sample"
	"espalier/term"
)

func TestOf(t *testing.T) {
	for _, c := range []struct{ text, early, late string }{
		{"(a)", "scan", "scan"},
		{"(a)-[]->(b)", "scan 0", "scan 0"},
		{"()-[]->()<-[*]-()-[]->()-[]->()", "scan 0 1 2 3", "scan 0 1 2 3"},
		{"(a) where a.x = 1", "scan [(a.x = 1)]", "scan [(a.x = 1)]"},
		{"(a)-[]->(b) where a.x = 1", "scan [(a.x = 1)] 0", "scan 0 [(a.x = 1)]"},
		{"(a)-[]->(b) where b.x = 1", "scan 0 [(b.x = 1)]", "scan 0 [(b.x = 1)]"},
		{"(a)-[]->(b)-[]->(c) where b.x = 1", "scan 0 [(b.x = 1)] 1", "scan 0 1 [(b.x = 1)]"},
		{"(a)-[]->(b) where b.x = 1 and a.x = 1", "scan [(a.x = 1)] 0 [(b.x = 1)]", "scan 0 [(b.x = 1)] [(a.x = 1)]"},
		// In their order, whatever brackets put together; the first innermost.
		{"(a) where a.x and a.y and a.z and a.w", "scan [a.x] [a.y] [a.z] [a.w]", "scan [a.x] [a.y] [a.z] [a.w]"},
		{"(a) where a.x and (a.y and (a.z and a.w))", "scan [a.x] [a.y] [a.z] [a.w]", "scan [a.x] [a.y] [a.z] [a.w]"},
		{"(a) where (a.x and a.y) and (a.z and a.w)", "scan [a.x] [a.y] [a.z] [a.w]", "scan [a.x] [a.y] [a.z] [a.w]"},
		{"(a) where a.x and a.x", "scan [a.x] [a.x]", "scan [a.x] [a.x]"},
		{"(a)-[]->(b)-[]->(c) where c.x and a.x and b.x and a.y and c.y", "scan [a.x] [a.y] 0 [b.x] 1 [c.x] [c.y]", "scan 0 1 [c.x] [a.x] [b.x] [a.y] [c.y]"},
		// All names of a part must be found.
		{"(a)-[]->(b)-[]->(c) where a < b and c < a and b = 1", "scan 0 [(a < b)] [(b = 1)] 1 [(c < a)]", "scan 0 1 [(a < b)] [(c < a)] [(b = 1)]"},
		// No names: at once.
		{"(a)-[]->(b) where a = b and true and 1 < 2", "scan [true] [(1 < 2)] 0 [(a = b)]", "scan 0 [(a = b)] [true] [(1 < 2)]"},
		{"()-[]->() where null", "scan [null] 0", "scan 0 [null]"},
		// An arrow is found with its right dot.
		{"(a)-[e]->(b)-[f]->(c) where f.x and e.x and type(e) = 'K'", "scan 0 [e.x] [(type(e) = 'K')] 1 [f.x]", "scan 0 1 [f.x] [e.x] [(type(e) = 'K')]"},
		{"(a)-[]->(b)-[f]->(c) where a < f", "scan 0 1 [(a < f)]", "scan 0 1 [(a < f)]"},
		// The first dot of a name tells.
		{"(a)-[]->(b)-[]->(a)-[]->(c) where a = b and a.x", "scan [a.x] 0 [(a = b)] 1 2", "scan 0 1 2 [(a = b)] [a.x]"},
		// Nothing but `and` at the top has parts.
		{"(a)-[]->(b) where a.x or b.x", "scan 0 [(a.x or b.x)]", "scan 0 [(a.x or b.x)]"},
		{"(a)-[]->(b) where (a.x and b.x) or a.y", "scan 0 [((a.x and b.x) or a.y)]", "scan 0 [((a.x and b.x) or a.y)]"},
		{"(a)-[]->(b) where not (a.x and b.x)", "scan 0 [(not (a.x and b.x))]", "scan 0 [(not (a.x and b.x))]"},
		{"(a)-[]->(b) where a.x and (b.x or (a.y and b.y))", "scan [a.x] 0 [(b.x or (a.y and b.y))]", "scan 0 [a.x] [(b.x or (a.y and b.y))]"},
		{"(a)-[]->(b) where coalesce(a.x and b.x)", "scan 0 [coalesce((a.x and b.x))]", "scan 0 [coalesce((a.x and b.x))]"},
		// What is told makes no difference.
		{"(a)-[]->(b) where a.x return distinct count(b.x) as n", "scan [a.x] 0", "scan 0 [a.x]"},
	} {
		q := questionOf(t, c.text)
		for _, early := range []bool{false, true} {
			want := c.late
			if early {
				want = c.early
			}
			p, e := Of(q, early)
			if e != api.OK || wrote(t, q, p) != want {
				t.Errorf("%s, early %t: %s, %d, want %s", c.text, early, wrote(t, q, p), e, want)
			}
		}
	}
}

// halved is `and` of as many parts as there can be: each half of it is, too, as deep as it goes.
func halved(deep int, part api.Term) api.Term {
	if deep == api.MaxDeep-1 {
		return part
	}
	return sample.Call("and", halved(deep+1, part), halved(deep+1, part))
}

func TestOfTheMostParts(t *testing.T) {
	q := questionOf(t, "(a)-[]->(b)-[]->(c)-[]->(d)-[]->(e)")
	for _, name := range []string{"a", "e"} {
		q.Where = []api.Term{halved(0, sample.Var(name))}
		for _, early := range []bool{false, true} {
			p, e := Of(q, early)
			if got := wrote(t, q, p); e != api.OK || strings.Count(got, "["+name+"]") != 32 || strings.Count(got, " ") != 36 {
				t.Errorf("%s, early %t: %s, %d", name, early, got, e)
			}
			if n, e := Check(q, p); n != 5 || e != api.OK {
				t.Errorf("%s, early %t: %d, %d", name, early, n, e)
			}
		}
	}
}

// Of any question: the steps stand in their order, all parts are asked, those that come at once in the order of their parts, and early none of them could be asked sooner.
func TestOfAnyQuestion(t *testing.T) {
	s := sample.New(112)
	sifts := 0
	for i := range 6000 {
		q := s.Query(api.MaxDeep)
		if i%2 == 0 {
			q.Where = []api.Term{s.Where(q)}
		}
		early := i%4 < 2
		p, e := Of(q, early)
		if n, f := Check(q, p); e != api.OK || f != api.OK || n != len(q.Dots) {
			t.Fatalf("%v: %v, %d, %d, %d", q, p, e, n, f)
		}
		var parts []api.Term
		for _, w := range q.Where {
			parts = term.Parts(w)
		}
		want := "scan"
		for n := range q.Dots {
			if n > 0 {
				want += " " + string(rune('0'+n-1))
			}
			for _, x := range parts {
				if early && soonest(q, x) == n || !early && n == len(q.Dots)-1 {
					want += strings.TrimPrefix(wrote(t, q, siftedBy(x, scanned())), "scan")
					sifts++
				}
			}
		}
		if got := wrote(t, q, p); got != want {
			t.Fatalf("%v: %s, want %s", q, got, want)
		}
	}
	if sifts < 3000 {
		t.Errorf("only %d", sifts)
	}
}

// soonest is the first dot with which all names of a term are found.
func soonest(q api.Query, x api.Term) int {
	last := 0
	for _, name := range term.Free(x) {
		at := len(q.Dots)
		for i, d := range q.Dots {
			if d.Name == name {
				at = min(at, i)
			}
		}
		for i, a := range q.Arrows {
			if a.Name == name {
				at = min(at, i+1)
			}
		}
		last = max(last, at)
	}
	return last
}
