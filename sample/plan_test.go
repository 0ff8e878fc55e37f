package sample

import (
	"testing"

	"espalier/api"
	"espalier/plan"
	"espalier/query"
)

func TestPlansAreRight(t *testing.T) {
	s := New(6)
	kinds, most := map[int]int{}, 0
	for range 3000 {
		q := s.Loose()
		p := s.Plan(q)
		if n, e := plan.Check(q, p); e != api.OK || n != len(q.Dots) {
			t.Fatalf("%v of %v: %d, %d", p, q, n, e)
		}
		around := 0
		for ; len(p.From) > 0; p = p.From[0] {
			kinds[p.Kind]++
			around++
		}
		most = max(most, around)
	}
	if kinds[api.Hop] < 1000 || kinds[api.Sift] < 1000 || most < 10 {
		t.Errorf("%v, %d", kinds, most)
	}
}

func TestWhereIsRightForALooseQuestion(t *testing.T) {
	s := New(8)
	calls := map[string]int{}
	for range 3000 {
		q := s.Loose()
		q.Where = []api.Term{Call("not", s.Where(q))}
		if e := query.Check(q); e != api.OK {
			t.Fatalf("%v: %d", q, e)
		}
		calls[q.Where[0].A[0].Name]++
	}
	for _, name := range []string{"and", "or", "<", "<=", "=", "null"} {
		if calls[name] < 100 {
			t.Errorf("%s: %d", name, calls[name])
		}
	}
}
