package ask

import (
	"math"
	"slices"
	"strings"
	"testing"

	"espalier/api"
	"espalier/bag"
	"espalier/sample"
	"espalier/value"
)

// listed are rows, written one behind the other.
func listed(l []api.Row) string {
	var out []string
	for _, r := range l {
		out = append(out, key(r))
	}
	return strings.Join(out, " ")
}

func TestSort(t *testing.T) {
	abc := "1*[1,'c',null] 2*[2,'b',true] 1*[3,'a',true] 1*[4,'b',null]"
	for _, c := range []struct {
		b           string
		by          []int
		skip, limit int
		want        string
	}{
		{"", nil, 0, 9, ""},
		{"", []int{0, 7, -7, math.MaxInt, math.MinInt}, 0, 9, ""},
		{"2*[] 1*[1] 3*[1,2]", nil, 0, 9, "[] [] [1] [1,2] [1,2] [1,2]"},
		{abc, nil, 0, 9, "[1,'c',null] [2,'b',true] [2,'b',true] [3,'a',true] [4,'b',null]"},
		{abc, []int{1}, 0, 9, "[1,'c',null] [2,'b',true] [2,'b',true] [3,'a',true] [4,'b',null]"},
		{abc, []int{-1}, 0, 9, "[4,'b',null] [3,'a',true] [2,'b',true] [2,'b',true] [1,'c',null]"},
		{abc, []int{2}, 0, 9, "[3,'a',true] [2,'b',true] [2,'b',true] [4,'b',null] [1,'c',null]"},
		{abc, []int{-2}, 0, 9, "[1,'c',null] [2,'b',true] [2,'b',true] [4,'b',null] [3,'a',true]"},
		{abc, []int{3}, 0, 9, "[1,'c',null] [4,'b',null] [2,'b',true] [2,'b',true] [3,'a',true]"},
		{abc, []int{-3}, 0, 9, "[2,'b',true] [2,'b',true] [3,'a',true] [1,'c',null] [4,'b',null]"},
		{abc, []int{2, -1}, 0, 9, "[3,'a',true] [4,'b',null] [2,'b',true] [2,'b',true] [1,'c',null]"},
		{abc, []int{-2, 3}, 0, 9, "[1,'c',null] [4,'b',null] [2,'b',true] [2,'b',true] [3,'a',true]"},
		{abc, []int{3, -2}, 0, 9, "[1,'c',null] [4,'b',null] [2,'b',true] [2,'b',true] [3,'a',true]"},
		{abc, []int{-3, 2, -1}, 0, 9, "[3,'a',true] [2,'b',true] [2,'b',true] [4,'b',null] [1,'c',null]"},
		{abc, []int{-1, 1}, 0, 9, "[4,'b',null] [3,'a',true] [2,'b',true] [2,'b',true] [1,'c',null]"},
		{abc, []int{1}, 1, 2, "[2,'b',true] [2,'b',true]"},
		{abc, []int{1}, 2, 2, "[2,'b',true] [3,'a',true]"},
		{abc, []int{-1}, 4, 2, "[1,'c',null]"},
		{abc, []int{1}, 5, 2, ""},
		{abc, []int{1}, 6, 2, ""},
		{abc, []int{1}, 0, 0, ""},
		{abc, []int{1}, math.MaxInt, math.MaxInt, ""},
		{abc, []int{1}, 4, math.MaxInt, "[4,'b',null]"},
		{abc, []int{1}, math.MaxInt, 0, ""},
		// Rows need not have as many values; the last that all have is told by its number, not from behind.
		{"1*[1] 1*[1,2] 1*[2,1] 1*[3]", []int{-1}, 0, 9, "[3] [2,1] [1] [1,2]"},
		{"1*[1,9] 1*[2,8,1] 1*[3,7,2,1]", []int{-2}, 0, 9, "[1,9] [2,8,1] [3,7,2,1]"},
		{"1*[1,9] 1*[2,8,1] 1*[3,7,2,1]", []int{2}, 0, 9, "[3,7,2,1] [2,8,1] [1,9]"},
		// All kinds have one order.
		{"1*[1,[]] 1*[2,'a'] 1*[3,7] 1*[4,true] 1*[5,null]", []int{2}, 0, 9, "[5,null] [4,true] [3,7] [2,'a'] [1,[]]"},
		{"1*[1,null] 1*[2,[null]] 1*[3,null] 1*[4,[null]]", []int{-2}, 0, 9, "[2,[null]] [4,[null]] [1,null] [3,null]"},
	} {
		got, e := Sort(bagOf(c.b), c.by, c.skip, c.limit)
		if e != api.OK || listed(got) != c.want {
			t.Errorf("%s by %v from %d, %d: %s, %d, want %s", c.b, c.by, c.skip, c.limit, listed(got), e, c.want)
		}
	}
}

// numbered are so many rows of a number each, from first on, each so often.
func numbered(many, first, times int) api.Bag {
	var b api.Bag
	for i := range many {
		b = append(b, api.Count{R: api.Row{sample.Int(first + i)}, N: times})
	}
	return b
}

func TestSortOfMuch(t *testing.T) {
	got, e := Sort(numbered(api.MaxRows, 0, 1), []int{-1}, 0, api.MaxRows)
	if e != api.OK || len(got) != api.MaxRows || got[0][0].N != 1999 || got[1999][0].N != 0 {
		t.Errorf("the most rows: %d, %d", len(got), e)
	}
	got, e = Sort(numbered(2, 0, api.MaxRows/2), []int{-1}, 999, 2)
	if e != api.OK || listed(got) != "[1] [0]" {
		t.Errorf("two rows, often: %s, %d", listed(got), e)
	}
	wide := api.Row(slices.Repeat([]api.Value{sample.Int(1)}, api.MaxList))
	got, e = Sort(api.Bag{{R: wide, N: 2}}, slices.Repeat([]int{-api.MaxList}, api.MaxList), 0, 5)
	if e != api.OK || listed(got) != listed([]api.Row{wide, wide}) {
		t.Errorf("the widest: %s, %d", listed(got), e)
	}
}

// Each of these is refused for a reason that is told ahead of all others that hold of it, too.
func TestSortRefuses(t *testing.T) {
	many := make([]int, api.MaxList+1)
	for _, c := range []struct {
		what        string
		b           api.Bag
		by          []int
		skip, limit int
		want        api.Errno
	}{
		{"many rows", numbered(api.MaxRows+1, 0, -1), many, -1, -1, api.ErrMany},
		{"a long text", api.Bag{{R: api.Row{sample.LongText()}, N: -1}}, many, -1, -1, api.ErrMany},
		{"a wrong text", api.Bag{{R: api.Row{sample.WrongText()}, N: -1}}, many, -1, -1, api.ErrForm},
		{"no times", bagOf("0*[1]"), many, -1, -1, api.ErrForm},
		{"rows that fall", bagOf("1*[2] 1*[1]"), many, -1, -1, api.ErrForm},
		{"too many times", numbered(1, 0, 1<<40+1), nil, 0, 9, api.ErrRange},
		{"skip below 0", bagOf("-1*[1]"), nil, -1, 9, api.ErrRange},
		{"limit below 0", bagOf("-1*[1]"), nil, 0, -1, api.ErrRange},
		{"the least skip", nil, nil, math.MinInt, 9, api.ErrRange},
		{"the least limit", nil, nil, 0, math.MinInt, api.ErrRange},
		{"many places", bagOf("-1*[1]"), many, 0, 9, api.ErrRange},
		{"many places of nothing", nil, many, 0, 9, api.ErrRange},
		{"below 0 times", bagOf("-1*[1]"), []int{0}, 0, 9, api.ErrForm},
		{"below 0 times, later", bagOf("1*[1] -1*[2]"), []int{1}, 0, 9, api.ErrForm},
		{"below 0 times, none told", bagOf("1*[1] -1*[2]"), []int{1}, 0, 0, api.ErrForm},
		{"place 0", bagOf("1*[1]"), []int{1, 0}, 0, 9, api.ErrRange},
		{"behind the last", bagOf("1*[1,2]"), []int{3}, 0, 9, api.ErrRange},
		{"behind the last, falling", bagOf("1*[1,2]"), []int{1, -3}, 0, 9, api.ErrRange},
		{"the greatest place", bagOf("1*[1,2]"), []int{math.MaxInt}, 0, 9, api.ErrRange},
		{"the least place", bagOf("1*[1,2]"), []int{math.MinInt}, 0, 9, api.ErrRange},
		{"of the empty row", bagOf("1*[]"), []int{1}, 0, 9, api.ErrRange},
		{"of a short row", bagOf("1*[1,2] 1*[2]"), []int{2}, 0, 9, api.ErrRange},
		{"of a short row, none told", bagOf("1*[1,2] 1*[2]"), []int{2}, 5, 0, api.ErrRange},
		{"no place, then below 0 times", bagOf("1*[1] -1*[1,2]"), []int{2}, 0, 9, api.ErrRange},
		{"below 0 times, then no place", bagOf("-1*[1,2] 1*[2]"), []int{2}, 0, 9, api.ErrForm},
		{"full", numbered(1, 0, api.MaxRows+1), []int{1}, 0, 9, api.ErrFull},
		{"full, none told", numbered(1, 0, api.MaxRows+1), nil, 0, 0, api.ErrFull},
		{"full by far", numbered(1, 0, 1<<40), nil, 0, 9, api.ErrFull},
		{"full at last", append(numbered(1, 0, api.MaxRows), numbered(1, 1, 1)...), nil, 0, 9, api.ErrFull},
		{"full by all", numbered(api.MaxRows, 0, 2), nil, 0, 9, api.ErrFull},
		{"full, but no place", numbered(1, 0, api.MaxRows+1), []int{2}, 0, 9, api.ErrRange},
		{"full, then below 0 times", append(numbered(2, 0, 1001), numbered(1, 5, -2)...), nil, 0, 9, api.ErrFull},
		{"below 0 times, then full", append(numbered(1, 0, -5), numbered(1, 1, 3000)...), nil, 0, 9, api.ErrForm},
		{"full, then no place", append(bagOf("2001*[1,1]"), bagOf("1*[2]")...), []int{2}, 0, 9, api.ErrFull},
		{"no place, then full", append(bagOf("1*[1]"), bagOf("2001*[2,1]")...), []int{2}, 0, 9, api.ErrRange},
		{"full, if rows below 0 times don't count", append(numbered(1, 0, 2000), numbered(1, 1, -1)...), nil, 0, 9, api.ErrForm},
	} {
		if got, e := Sort(c.b, c.by, c.skip, c.limit); got != nil || e != c.want {
			t.Errorf("%s: %d rows, %d, want %d", c.what, len(got), e, c.want)
		}
	}
}

// countable is a bag without rows that stand below 0 times in it; each has at least two values, at most three.
func countable(s *sample.Source, many int) api.Bag {
	b, _ := bag.Of(s.Rows(many, 2, 3))
	return b
}

func placesUpTo(s *sample.Source, values int) []int {
	var l []int
	for range s.Below(4) {
		l = append(l, (1+s.Below(values))*(1-2*s.Below(2)))
	}
	return l
}

// belongs tells whether x may stand ahead of y: by the first place at which they differ, else as the bag has them.
func belongs(by []int, x, y api.Row) bool {
	for _, n := range by {
		i := max(n, -n) - 1
		if c := value.Order(x[i], y[i]); c != 0 {
			return (c < 0) == (n > 0)
		}
	}
	return bag.Compare(x, y) <= 0
}

// All rows are there, each as often as it was, and each two neighbours stand as they belong; skip and limit tell a piece of that.
func TestSortedRows(t *testing.T) {
	s := sample.New(101)
	told := 0
	for range 3000 {
		b, by := countable(s, 40), placesUpTo(s, 2)
		all, e := Sort(b, by, 0, api.MaxRows)
		if e != api.OK {
			t.Fatalf("%s by %v: %d", wrote(b), by, e)
		}
		if again, _ := bag.Of(all); wrote(again) != wrote(b) {
			t.Fatalf("%s by %v: %s", wrote(b), by, listed(all))
		}
		for i := 1; i < len(all); i++ {
			if !belongs(by, all[i-1], all[i]) {
				t.Fatalf("%s by %v: %s", wrote(b), by, listed(all))
			}
		}
		skip, limit := s.Below(50), s.Below(50)
		from := min(skip, len(all))
		piece, e := Sort(b, by, skip, limit)
		if e != api.OK || listed(piece) != listed(all[from:min(from+limit, len(all))]) {
			t.Fatalf("%s by %v from %d, %d: %s, %d", wrote(b), by, skip, limit, listed(piece), e)
		}
		told += len(piece)
	}
	if told < 3000 {
		t.Errorf("only %d", told)
	}
}
