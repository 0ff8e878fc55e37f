package bag

import (
	"slices"
	"testing"

	"espalier/api"
	"espalier/sample"
)

// times is how often each row comes, by its key: a bag counted another way.
type times map[string]int

// of counts all rows of a bag.
func of(b api.Bag) times {
	out := times{}
	for _, c := range b {
		out[key(c.R)] += c.N
	}
	return out
}

// right tells that an answer passes Check, and has each row as often as it should.
func right(t *testing.T, what string, got api.Bag, e api.Errno, want times) {
	t.Helper()
	if e != api.OK || Check(got) != api.OK {
		t.Fatalf("%s: %s, %d, and %d of that", what, wrote(got), e, Check(got))
	}
	has := of(got)
	for k, n := range want {
		if has[k] != n {
			t.Fatalf("%s: %s %d times, want %d", what, k, has[k], n)
		}
	}
	for k, n := range has {
		if want[k] != n {
			t.Fatalf("%s: %s %d times, want %d", what, k, n, want[k])
		}
	}
}

// went is a bag that is answered without an error.
func went(t *testing.T, b api.Bag, e api.Errno) api.Bag {
	t.Helper()
	if e != api.OK {
		t.Fatal(e)
	}
	return b
}

func alike(t *testing.T, what string, a, b api.Bag) {
	t.Helper()
	if wrote(a) != wrote(b) {
		t.Fatalf("%s: %s, and %s", what, wrote(a), wrote(b))
	}
}

func TestOfCounts(t *testing.T) {
	s := sample.New(31)
	for range 2000 {
		l := s.Rows(60, 0, 2)
		want := times{}
		for _, r := range l {
			want[key(r)]++
		}
		got, e := Of(l)
		right(t, "of", got, e, want)
		slices.Reverse(l)
		again, e := Of(l)
		right(t, "of, turned round", again, e, want)
		alike(t, "turned round", got, again)
	}
}

func TestDistinctCounts(t *testing.T) {
	s := sample.New(32)
	for range 2000 {
		b := s.Bag(30, 0, 2)
		want := times{}
		for k, n := range of(b) {
			if n > 0 {
				want[k] = 1
			}
		}
		got, e := Distinct(b)
		right(t, "distinct", got, e, want)
		again, e := Distinct(got)
		right(t, "distinct twice", again, e, want)
	}
}

func TestAddCounts(t *testing.T) {
	s := sample.New(33)
	gone := 0
	for range 2000 {
		a, b, k := s.Bag(40, 0, 1), s.Bag(40, 0, 1), s.Below(7)-3
		want := of(a)
		for key, n := range of(b) {
			want[key] += k * n
		}
		got, e := Add(a, b, k)
		right(t, "add", got, e, want)
		gone += len(want) - len(got)
	}
	if gone < 1000 {
		t.Errorf("only %d come to nothing", gone)
	}
}

// columns are some that all rows have that have so many values.
func columns(s *sample.Source, values int) []int {
	var l []int
	for range s.Below(4) {
		l = append(l, s.Below(values))
	}
	return l
}

func TestPickCounts(t *testing.T) {
	s := sample.New(34)
	fewer := 0
	for range 2000 {
		b, l := s.Bag(60, 2, 3), columns(s, 2)
		want := times{}
		for _, c := range b {
			var r api.Row
			for _, i := range l {
				r = append(r, c.R[i])
			}
			want[key(r)] += c.N
		}
		got, e := Pick(b, l)
		right(t, "pick", got, e, want)
		if len(got) < len(b) {
			fewer++
		}
	}
	if fewer < 1000 {
		t.Errorf("only %d have fewer rows", fewer)
	}
}

// Values are the same here if the same is written: that holds of all that Check takes.
func TestJoinCounts(t *testing.T) {
	s := sample.New(35)
	told := 0
	for i := range 2000 {
		k := i % 3
		a, b := s.Bag(40, k, k+1), s.Bag(40, k, k+1)
		want := times{}
		for _, x := range a {
			for _, y := range b {
				if key(x.R[:k]) == key(y.R[:k]) && !slices.ContainsFunc(x.R[:k], func(v api.Value) bool { return v.Kind == api.Null }) {
					want[key(slices.Concat(x.R, y.R[k:]))] += x.N * y.N
				}
			}
		}
		got, e := Join(a, b, k)
		right(t, "join", got, e, want)
		told += len(got)
	}
	if told < 2000 {
		t.Errorf("only %d rows", told)
	}
}

func TestAddHasOneOrderAsTheOther(t *testing.T) {
	s := sample.New(36)
	for range 2000 {
		a, b, c := s.Bag(40, 0, 2), s.Bag(40, 0, 2), s.Bag(40, 0, 2)
		ab, e := Add(a, b, 1)
		went(t, ab, e)
		ba, e := Add(b, a, 1)
		alike(t, "one ahead, the other ahead", ab, went(t, ba, e))
		left, e := Add(ab, c, 1)
		went(t, left, e)
		bc, e := Add(b, c, 1)
		right, f := Add(a, went(t, bc, e), 1)
		alike(t, "of three", left, went(t, right, f))
	}
}

func TestAddedAndTakenAway(t *testing.T) {
	s := sample.New(37)
	for range 2000 {
		a, b, k := s.Bag(40, 0, 2), s.Bag(40, 0, 2), s.Below(2001)-1000
		more, e := Add(a, b, k)
		back, f := Add(went(t, more, e), b, -k)
		alike(t, "taken away", went(t, back, f), a)
		none, e := Add(a, a, -1)
		alike(t, "taken from itself", went(t, none, e), nil)
	}
}

func TestPickGoesThroughSums(t *testing.T) {
	s := sample.New(38)
	for range 2000 {
		a, b, k, l := s.Bag(40, 2, 3), s.Bag(40, 2, 3), s.Below(21)-10, columns(s, 2)
		both, e := Add(a, b, k)
		whole, f := Pick(went(t, both, e), l)
		went(t, whole, f)
		of, e := Pick(a, l)
		more, f := Pick(b, l)
		parts, g := Add(went(t, of, e), went(t, more, f), k)
		alike(t, "of the sum, and the sum", whole, went(t, parts, g))
	}
}

func TestJoinGoesThroughSums(t *testing.T) {
	s := sample.New(39)
	for i := range 2000 {
		k, by := i%3, s.Below(21)-10
		a, b, c := s.Bag(30, k, k+1), s.Bag(30, k, k+1), s.Bag(30, k, k+1)
		both, e := Add(a, b, by)
		went(t, both, e)
		for _, join := range []func(x api.Bag) (api.Bag, api.Errno){
			func(x api.Bag) (api.Bag, api.Errno) { return Join(x, c, k) },
			func(x api.Bag) (api.Bag, api.Errno) { return Join(c, x, k) },
		} {
			whole, e := join(both)
			went(t, whole, e)
			of, e := join(a)
			more, f := join(b)
			parts, g := Add(went(t, of, e), went(t, more, f), by)
			alike(t, "of the sum, and the sum", whole, went(t, parts, g))
		}
	}
}
