package bag

import (
	"slices"
	"strconv"
	"testing"

	"espalier/api"
	"espalier/sample"
)

// Each of these rows stands behind the one ahead.
func TestCompare(t *testing.T) {
	l := rows("[] [null] [null,null] [null,1] [false] [true] [true,null] [-5] [0] [1] [1,null] [1,2] [1,2,3] [1,3] [2] [''] ['a'] ['a','b'] ['aa'] ['b'] [[]] [[],1] [[null]] [[1]] [[1],0] [[1,1]] [[2]]")
	for i, a := range l {
		for k, b := range l {
			want := 0
			if i < k {
				want = -1
			} else if i > k {
				want = 1
			}
			if got := Compare(a, b); got != want {
				t.Errorf("%s, %s: %d, want %d", key(a), key(b), got, want)
			}
		}
	}
}

// Rows that Check doesn't take have their order, too.
func TestCompareOfAnyRows(t *testing.T) {
	deep := nested(100000)
	for _, c := range []struct {
		what string
		a, b api.Row
		want int
	}{
		{"nil and empty", nil, api.Row{}, 0},
		{"a kind that there isn't", api.Row{{Kind: 9}}, api.Row{{Kind: api.List}}, 1},
		{"the least kind", api.Row{{Kind: -1 << 63}}, api.Row{{}}, -1},
		{"a field that a kind hasn't", api.Row{{N: 1}}, api.Row{{}}, 1},
		{"a long one", wide(1000, sample.Int(1)), wide(1001, sample.Int(1)), -1},
		{"a long one, with less in it", wide(1000, sample.Int(1)), api.Row{sample.Int(2)}, -1},
		{"deep lists", api.Row{deep}, api.Row{deep}, 0},
		{"deep lists, and one more value", api.Row{deep, {}}, api.Row{deep}, 1},
	} {
		if got := Compare(c.a, c.b); got != c.want {
			t.Errorf("%s: %d, want %d", c.what, got, c.want)
		}
		if got := Compare(c.b, c.a); got != -c.want {
			t.Errorf("%s, turned: %d, want %d", c.what, got, -c.want)
		}
	}
}

func TestCheckTakes(t *testing.T) {
	for what, b := range map[string]api.Bag{
		"nil":                   nil,
		"nothing":               {},
		"the empty row":         {{N: 1}},
		"the most rows":         numbered(api.MaxRows, 0, 1),
		"the longest row":       once(wide(api.MaxList, sample.Int(1))),
		"the deepest lists":     once(api.Row{{}, nested(api.MaxDeep)}),
		"the longest text":      once(api.Row{sample.Text(sample.LongText().S[1:])}),
		"the most times":        numbered(1, 0, mostTimes),
		"the most times less":   numbered(1, 0, -mostTimes),
		"rows of many lengths":  read("1*[] -1*[null] 2*[1] 3*[1,2] 1*[2]"),
		"nulls, also in a list": read("1*[null,null] 1*[[null]] 1*[[null,null]]"),
	} {
		if e := Check(b); e != api.OK {
			t.Errorf("%s: %d", what, e)
		}
	}
}

// Each of these is refused for a reason that is told ahead of all others that hold of it, too.
func TestCheckRefuses(t *testing.T) {
	long, wrong := sample.LongText(), sample.WrongText()
	last := func(c api.Count) api.Bag { return append(numbered(api.MaxRows-1, 0, 1), c) }
	for _, c := range []struct {
		what string
		b    api.Bag
		want api.Errno
	}{
		{"many rows, all wrong", make(api.Bag, api.MaxRows+1), api.ErrMany},
		{"many rows, none wrong", numbered(api.MaxRows+1, 0, 1), api.ErrMany},
		{"a long row, no times, a wrong value", api.Bag{{R: wide(api.MaxList+1, wrong)}}, api.ErrMany},
		{"a long text, then a wrong one", once(api.Row{{}, long, wrong}), api.ErrMany},
		{"a wrong text, then a long one", once(api.Row{{}, wrong, long}), api.ErrForm},
		{"a long text, no times", api.Bag{{R: api.Row{long}}}, api.ErrMany},
		{"a long text, too many times", api.Bag{{R: api.Row{long}, N: mostTimes + 1}}, api.ErrMany},
		{"lists too deep", once(api.Row{{}, nested(api.MaxDeep + 1)}), api.ErrMany},
		{"no such kind", once(api.Row{{Kind: 5}}), api.ErrForm},
		{"no times", read("0*[1]"), api.ErrForm},
		{"no times, the empty row", api.Bag{{}}, api.ErrForm},
		{"no times, later", read("1*[1] 0*[2]"), api.ErrForm},
		{"the same row twice", read("1*[1] 1*[1]"), api.ErrForm},
		{"the empty row twice", read("1*[] 1*[]"), api.ErrForm},
		{"rows that fall", read("1*[2] 1*[1]"), api.ErrForm},
		{"rows that fall by their length", read("1*[1,0] 1*[1]"), api.ErrForm},
		{"rows that fall at last", read("1*[1] 1*[3] 1*[2]"), api.ErrForm},
		{"rows that fall by their kind", read("1*['a'] 1*[1]"), api.ErrForm},
		{"rows that fall, too many times", read("1*[2] 1099511627777*[1]"), api.ErrForm},
		{"too many times", numbered(1, 0, mostTimes+1), api.ErrRange},
		{"too many times less", numbered(1, 0, -mostTimes-1), api.ErrRange},
		{"the greatest number", numbered(1, 0, 1<<63-1), api.ErrRange},
		{"the least number", numbered(1, 0, -1<<63), api.ErrRange},
		{"too many times, then a long row", api.Bag{{N: mostTimes + 1}, {R: wide(api.MaxList+1, wrong), N: 1}}, api.ErrRange},
		{"a long row, then too many times", api.Bag{{R: wide(api.MaxList+1, wrong), N: 1}, {N: mostTimes + 1}}, api.ErrMany},
		{"no times, then too many", api.Bag{{}, {N: mostTimes + 1}}, api.ErrForm},
		{"the last of the most: a long row", last(api.Count{R: wide(api.MaxList+1, sample.Int(1<<30)), N: 1}), api.ErrMany},
		{"the last of the most: a row that was", last(api.Count{R: api.Row{sample.Int(7)}, N: 1}), api.ErrForm},
		{"the last of the most: too many times", last(api.Count{R: api.Row{sample.Int(1 << 30)}, N: -1 << 41}), api.ErrRange},
	} {
		if got := Check(c.b); got != c.want {
			t.Errorf("%s: %d, want %d", c.what, got, c.want)
		}
	}
	for want, b := range wrongs() {
		if got := Check(b); got != want {
			t.Errorf("%d, want %d", got, want)
		}
	}
}

func TestOf(t *testing.T) {
	for _, c := range []struct{ rows, want string }{
		{"", ""},
		{"[]", "1*[]"},
		{"[1] [] [1] []", "2*[] 2*[1]"},
		{"[2,1] [1,3] [2,1]", "1*[1,3] 2*[2,1]"},
		{"['b'] [2] [null] [true] [[]] ['a'] [10] [false]", "1*[null] 1*[false] 1*[true] 1*[2] 1*[10] 1*['a'] 1*['b'] 1*[[]]"},
		{"[null] [null,null] [null]", "2*[null] 1*[null,null]"},
		{"[[1,[null]]] [[1]] [[1,[null]]]", "1*[[1]] 2*[[1,[null]]]"},
		{"[1,2] [1] [2,1] [1,2,3]", "1*[1] 1*[1,2] 1*[1,2,3] 1*[2,1]"},
		{"[3] [1] [3] [2] [3] [1]", "2*[1] 1*[2] 3*[3]"},
		{"[1] [-1] [0] [true] ['1']", "1*[true] 1*[-1] 1*[0] 1*[1] 1*['1']"},
	} {
		got, e := Of(rows(c.rows))
		tells(t, c.rows, got, e, c.want)
	}
	got, e := Of(slices.Repeat(rows("[7]"), api.MaxRows))
	tells(t, "the most rows", got, e, strconv.Itoa(api.MaxRows)+"*[7]")
	got, e = Of([]api.Row{nil, {}, nil})
	tells(t, "empty rows", got, e, "3*[]")
}

// The first wrong row of the bag is told, not the first that is handed in.
func TestOfRefuses(t *testing.T) {
	long, wrong := sample.LongText(), sample.WrongText()
	for _, c := range []struct {
		what string
		l    []api.Row
		want api.Errno
	}{
		{"many rows", slices.Repeat(rows("[7]"), api.MaxRows+1), api.ErrMany},
		{"many wrong rows", slices.Repeat([]api.Row{{wrong}}, api.MaxRows+1), api.ErrMany},
		{"a long row", []api.Row{wide(api.MaxList+1, sample.Int(1))}, api.ErrMany},
		{"a wrong text", []api.Row{{sample.Int(1)}, {wrong}}, api.ErrForm},
		{"a wrong text twice", []api.Row{{wrong}, {wrong}}, api.ErrForm},
		{"a wrong text ahead of a long one", []api.Row{{wrong}, {long}}, api.ErrMany},
		{"a long text ahead of a wrong one", []api.Row{{long}, {wrong}}, api.ErrMany},
		{"a wrong text ahead of a long row", []api.Row{{wrong}, wide(api.MaxList+1, sample.List())}, api.ErrForm},
		{"a long row ahead of a wrong text", []api.Row{wide(api.MaxList+1, sample.List()), {wrong}}, api.ErrForm},
		{"no such kind", []api.Row{{{Kind: 6}}, {{Kind: -6}}}, api.ErrForm},
	} {
		got, e := Of(c.l)
		refuses(t, c.what, got, e, c.want)
	}
}

func TestDistinct(t *testing.T) {
	for _, c := range []struct{ b, want string }{
		{"", ""},
		{"1*[1]", "1*[1]"},
		{"-1*[1] 3*[2]", "1*[2]"},
		{"-1*[1] -3*[2]", ""},
		{"5*[] -2*[null] 7*[null,1] 1*[1]", "1*[] 1*[null,1] 1*[1]"},
		{"1099511627776*[1] -1099511627776*[2]", "1*[1]"},
	} {
		got, e := Distinct(read(c.b))
		tells(t, c.b, got, e, c.want)
	}
	got, e := Distinct(numbered(api.MaxRows, 0, 3))
	tells(t, "the most rows", got, e, wrote(numbered(api.MaxRows, 0, 1)))
	for want, b := range wrongs() {
		got, e := Distinct(b)
		refuses(t, "a wrong bag", got, e, want)
	}
	got, e = Distinct(numbered(api.MaxRows+1, 0, -1))
	refuses(t, "many rows, none of them told", got, e, api.ErrMany)
}
