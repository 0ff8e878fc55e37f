package guest

import (
	"slices"
	"testing"

	"espalier/api"
	"espalier/sample"
)

func TestCheckTakes(t *testing.T) {
	for what, u := range map[string]api.Guest{
		"nothing":                        {},
		"an empty queue":                 {Queue: []api.Bag{}},
		"all anew":                       {Fresh: true},
		"all anew, an empty queue":       {Fresh: true, Queue: []api.Bag{}},
		"the greatest numbers":           {View: 1<<63 - 1, At: 1<<63 - 1},
		"the empty row":                  {Queue: queue("1*[]")},
		"the same row again and again":   {Queue: queue("1*[1]; 1*[1]; -1*[1]; -2*[1]")},
		"the most rows in one bag":       {Queue: []api.Bag{numbered(api.MaxQueue, 0, 1)}},
		"the most rows, each very often": {Queue: []api.Bag{numbered(api.MaxQueue, 0, mostTimes)}},
		"the most rows in two bags":      {Queue: []api.Bag{numbered(api.MaxQueue-1, 0, 1), numbered(1, 0, 1)}},
		"the most bags":                  {Queue: ones(api.MaxQueue)},
		"what can't be added up":         {Queue: []api.Bag{numbered(1, 0, mostTimes), numbered(1, 0, mostTimes)}},
	} {
		if e := Check(u); e != api.OK {
			t.Errorf("%s: %d", what, e)
		}
	}
}

// Each of these is refused for a reason that is told ahead of all others that hold of it, too; by the other calls ahead of all that they are handed beside it.
func TestWrongGuests(t *testing.T) {
	long, falls, often := wrongs()[api.ErrMany], wrongs()[api.ErrForm], wrongs()[api.ErrRange]
	one, many := read("1*[1]"), numbered(api.MaxQueue+1, 0, 1)
	for _, c := range []struct {
		what string
		u    api.Guest
		want api.Errno
	}{
		{"no view", api.Guest{View: -1}, api.ErrRange},
		{"the least view, a wrong bag", api.Guest{View: -1 << 63, Queue: []api.Bag{falls}}, api.ErrRange},
		{"no commit", api.Guest{At: -1}, api.ErrRange},
		{"the least commit, an empty bag", api.Guest{At: -1 << 63, Queue: []api.Bag{nil}}, api.ErrRange},
		{"no commit, many rows, all anew", api.Guest{At: -1, Queue: []api.Bag{many}, Fresh: true}, api.ErrRange},
		{"a long text", api.Guest{Queue: []api.Bag{long}}, api.ErrMany},
		{"rows that fall", api.Guest{Queue: []api.Bag{falls}}, api.ErrForm},
		{"a row too often", api.Guest{Queue: []api.Bag{often}}, api.ErrRange},
		{"a row too often, all anew", api.Guest{Queue: []api.Bag{often}, Fresh: true}, api.ErrRange},
		{"a row too often, later", api.Guest{Queue: []api.Bag{one, one, often}}, api.ErrRange},
		{"a row too often, then a long text", api.Guest{Queue: []api.Bag{often, long}}, api.ErrRange},
		{"a long text, then a row too often", api.Guest{Queue: []api.Bag{long, often}}, api.ErrMany},
		{"a row too often, then an empty bag", api.Guest{Queue: []api.Bag{often, nil}}, api.ErrRange},
		{"an empty bag", api.Guest{Queue: []api.Bag{nil}}, api.ErrForm},
		{"an empty bag that isn't nil", api.Guest{Queue: []api.Bag{{}}}, api.ErrForm},
		{"an empty bag, then a row too often", api.Guest{Queue: []api.Bag{nil, often}}, api.ErrForm},
		{"an empty bag, then many rows", api.Guest{Queue: []api.Bag{one, nil, many}}, api.ErrForm},
		{"many rows, then an empty bag", api.Guest{Queue: []api.Bag{many, nil}}, api.ErrForm},
		{"many rows, then a row too often", api.Guest{Queue: []api.Bag{many, often}}, api.ErrRange},
		{"an empty bag, all anew", api.Guest{Queue: []api.Bag{nil}, Fresh: true}, api.ErrForm},
		{"many rows", api.Guest{Queue: []api.Bag{many}}, api.ErrMany},
		{"many rows together", api.Guest{Queue: []api.Bag{many[:api.MaxQueue], one}}, api.ErrMany},
		{"many rows that come to nothing", api.Guest{Queue: []api.Bag{numbered(api.MaxQueue, 0, 1), numbered(api.MaxQueue, 0, -1)}}, api.ErrMany},
		{"many bags", api.Guest{Queue: ones(api.MaxQueue + 1)}, api.ErrMany},
		{"many rows, all anew", api.Guest{Queue: []api.Bag{many}, Fresh: true}, api.ErrMany},
		{"the most rows of a bag", api.Guest{Queue: []api.Bag{numbered(api.MaxRows, 0, 1)}}, api.ErrMany},
		{"the most rows of a bag, then an empty one", api.Guest{Queue: []api.Bag{numbered(api.MaxRows, 0, 1), nil}}, api.ErrForm},
		{"more rows than a bag may have, then an empty one", api.Guest{Queue: []api.Bag{numbered(api.MaxRows+1, 0, 1), nil}}, api.ErrMany},
		{"one row, all anew", api.Guest{Queue: []api.Bag{one}, Fresh: true}, api.ErrForm},
		{"the most rows, all anew", api.Guest{Queue: ones(api.MaxQueue), Fresh: true}, api.ErrForm},
	} {
		if e := Check(c.u); e != c.want {
			t.Errorf("%s: %d, want %d", c.what, e, c.want)
		}
		for _, b := range []api.Bag{nil, one, many, long, falls, often} {
			refuses(t, c.what, c.u, b, -1<<63, c.want)
			refuses(t, c.what, c.u, b, 1<<63-1, c.want)
		}
	}
}

func TestTell(t *testing.T) {
	for _, c := range []struct{ queue, b, want string }{
		{"1*[1]", "2*[1]", "1*[1]; 2*[1]"},
		{"1*[1]", "-1*[1]", "1*[1]; -1*[1]"},
		{"2*[2] 1*[3]; -1*[1]", "1*[0] 1*[4]", "2*[2] 1*[3]; -1*[1]; 1*[0] 1*[4]"},
		{"1*['a',[1,null]]", "1*[]", "1*['a',[1,null]]; 1*[]"},
	} {
		got, e := Tell(api.Guest{View: 2, At: 5, Queue: queue(c.queue)}, read(c.b))
		tells(t, c.b+" behind "+c.queue, got, e, api.Guest{View: 2, At: 5, Queue: queue(c.want)})
	}
	got, e := Tell(api.Guest{View: 2, At: 5}, read("1*[1]"))
	tells(t, "the first", got, e, api.Guest{View: 2, At: 5, Queue: queue("1*[1]")})
}

// Rows are counted, not how often they come.
func TestTellAtTheEdge(t *testing.T) {
	for _, c := range []struct {
		what         string
		waits, comes int
		anew         bool
	}{
		{"as many as may wait", 0, api.MaxQueue, false},
		{"one more", 0, api.MaxQueue + 1, true},
		{"as many as a bag may have", 0, api.MaxRows, true},
		{"the last", api.MaxQueue - 1, 1, false},
		{"one more than the last", api.MaxQueue - 1, 2, true},
		{"one behind all", api.MaxQueue, 1, true},
		{"two halves", api.MaxQueue / 2, api.MaxQueue / 2, false},
		{"two halves and one", api.MaxQueue / 2, api.MaxQueue/2 + 1, true},
	} {
		for _, times := range []int{1, -1, mostTimes} {
			u, b := api.Guest{View: 3, At: 4}, numbered(c.comes, 0, times)
			if c.waits > 0 {
				u.Queue = []api.Bag{numbered(c.waits, 0, 1)}
			}
			want := api.Guest{View: 3, At: 4, Fresh: true}
			if !c.anew {
				want = api.Guest{View: 3, At: 4, Queue: append(slices.Clone(u.Queue), b)}
			}
			got, e := Tell(u, b)
			tells(t, c.what, got, e, want)
		}
	}
	got, e := Tell(api.Guest{Queue: ones(api.MaxQueue - 1)}, read("1*[7]"))
	tells(t, "the last of many bags", got, e, api.Guest{Queue: ones(api.MaxQueue)})
	got, e = Tell(api.Guest{Queue: ones(api.MaxQueue)}, read("-1*[7]"))
	tells(t, "one behind many bags", got, e, api.Guest{Fresh: true})
}

func TestTellOfNothing(t *testing.T) {
	for _, u := range []api.Guest{
		{}, {View: 1, At: 2}, {View: 1, At: 2, Fresh: true}, {View: 1, At: 2, Queue: queue("1*[1]; 1*[2]")}, {Queue: ones(api.MaxQueue)},
	} {
		for _, b := range []api.Bag{nil, {}} {
			got, e := Tell(u, b)
			tells(t, "nothing", got, e, u)
		}
	}
	for _, n := range []int{1, api.MaxQueue, api.MaxQueue + 1, api.MaxRows} {
		u := api.Guest{View: 1, At: 2, Fresh: true}
		got, e := Tell(u, numbered(n, 0, 1))
		tells(t, "all must be told anew as it is", got, e, u)
	}
}

// A bag's error is told however little it matters what the bag has.
func TestWrongBags(t *testing.T) {
	for _, u := range []api.Guest{{At: 7}, {At: 7, Fresh: true}, {At: 7, Queue: ones(api.MaxQueue)}, {At: 7, Queue: []api.Bag{numbered(1, 0, mostTimes), numbered(1, 0, 1)}}} {
		for want, b := range wrongs() {
			refuses(t, "a wrong bag", u, b, 8, want)
			refuses(t, "a wrong bag, too early", u, b, 6, want)
		}
		refuses(t, "too many rows", u, numbered(api.MaxRows+1, 0, 1), 8, api.ErrMany)
		refuses(t, "too many rows, too early", u, numbered(api.MaxRows+1, 0, 1), 6, api.ErrMany)
		refuses(t, "no times", u, read("0*[1]"), 8, api.ErrForm)
		refuses(t, "a wrong text behind what may wait", u, append(numbered(api.MaxQueue+5, 0, 1), api.Count{R: api.Row{sample.WrongText()}, N: 1}), 8, api.ErrForm)
	}
}

func TestTake(t *testing.T) {
	all := read("5*['all']")
	for _, c := range []struct{ queue, want string }{
		{"1*[1]", "1*[1]"},
		{"-1*[1]", "-1*[1]"},
		{"1*[1]; 1*[1]", "2*[1]"},
		{"1*[1]; -1*[1]", ""},
		{"1*[2]; 1*[1]; 1*[3]", "1*[1] 1*[2] 1*[3]"},
		{"1*[1] 2*[2]; -2*[2] 1*[3]; 1*[0] -3*[1]", "1*[0] -2*[1] 1*[3]"},
		{"-1*[2] 1*[3]; -1*[3] 1*[4]; 1*[2] -1*[4]", ""},
		{"1*[] 1*[null]; 1*[null,null] 1*[[null]]; 1*[[null]]", "1*[] 1*[null] 1*[null,null] 2*[[null]]"},
		{"1099511627776*[1]; 1*[1]; -1*[1]", "1099511627776*[1]"},
		{"-1099511627776*[1]; -1099511627776*[1]; 1099511627776*[1]", "-1099511627776*[1]"},
		{"1099511627776*[1]; 1099511627776*[1]; 1099511627776*[1]; -1099511627776*[1]; -1099511627776*[1]; -1099511627776*[1]", ""},
	} {
		got, b, anew, e := Take(api.Guest{View: 2, At: 5, Queue: queue(c.queue)}, all, 8)
		if wrote(b) != c.want || anew {
			t.Errorf("%s: %s, %v, want %s", c.queue, wrote(b), anew, c.want)
		}
		tells(t, c.queue, got, e, api.Guest{View: 2, At: 8})
	}
	got, b, anew, e := Take(api.Guest{View: 2, At: 5}, all, 8)
	tells(t, "nothing waits", got, e, api.Guest{View: 2, At: 8})
	if b != nil || anew {
		t.Errorf("nothing waits: %s, %v", wrote(b), anew)
	}
	_, b, _, _ = Take(api.Guest{Queue: ones(api.MaxQueue)}, nil, 0)
	if wrote(b) != "40*[7]" {
		t.Errorf("the most bags: %s", wrote(b))
	}
}

func TestTakeAnew(t *testing.T) {
	for _, all := range []api.Bag{nil, {}, read("1*[1]"), read("-1*[1] 7*[2]"), numbered(api.MaxQueue+1, 0, 1), numbered(api.MaxRows, 0, mostTimes)} {
		got, b, anew, e := Take(api.Guest{View: 2, At: 5, Fresh: true}, all, 6)
		tells(t, "anew", got, e, api.Guest{View: 2, At: 6})
		if wrote(b) != wrote(all) || !anew {
			t.Errorf("%d rows: %d, %v", len(all), len(b), anew)
		}
	}
}

func TestTakeAt(t *testing.T) {
	for _, u := range []api.Guest{{View: 1, At: 5}, {View: 1, At: 5, Fresh: true}, {View: 1, At: 5, Queue: queue("1*[1]")}} {
		for _, at := range []int{5, 6, 1<<63 - 1} {
			got, _, _, e := Take(u, nil, at)
			tells(t, "in time", got, e, api.Guest{View: 1, At: at})
		}
		for _, at := range []int{4, 0, -1, -1 << 63} {
			refusesTake(t, "too early", u, nil, at, api.ErrRange)
		}
	}
	for _, at := range []int{-1, -1 << 63} {
		refusesTake(t, "ahead of the first commit", api.Guest{}, nil, at, api.ErrRange)
	}
}

// It is the sum that may not come too often.
func TestTakeTooOften(t *testing.T) {
	for _, text := range []string{
		"1099511627776*[1]; 1*[1]",
		"-1099511627776*[1]; -1*[1]",
		"1*[0] 1099511627776*[1]; 1*[2]; 1099511627776*[1] -1*[2]",
		"1099511627776*[1]; 1099511627776*[1]; -1099511627775*[1]",
	} {
		refusesTake(t, text, api.Guest{Queue: queue(text)}, nil, 3, api.ErrRange)
	}
	var l []api.Bag
	for range api.MaxQueue {
		l = append(l, numbered(1, 0, mostTimes))
	}
	refusesTake(t, "as often as can be", api.Guest{Queue: l}, nil, 3, api.ErrRange)
}
