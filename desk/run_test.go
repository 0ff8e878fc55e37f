package desk

import (
	"slices"
	"testing"

	"espalier/api"
)

func TestRun(t *testing.T) {
	bad := commit(api.Op{Kind: api.AddNode}, drop(9))
	d, l, e := Run([]api.Request{watch(nodes), join(0), add(1), take(0), bad, add(1), take(0), asking(many), {}, join(7), watch("match"), crash(1), take(1), crash(0), take(0)})
	var got []string
	for _, a := range l {
		got = append(got, wrote(a))
	}
	var want []string
	for _, a := range []api.Answer{
		{}, {}, {At: 1, IDs: []int{1}},
		{At: 1, Rows: read("1*[1]"), Fresh: true},
		{E: api.ErrWho, At: 1},
		{At: 2, IDs: []int{2}},
		{At: 2, Rows: read("1*[2]")},
		{Rows: read("1*[2]")},
		{E: api.ErrRange}, {E: api.ErrWho}, {E: api.ErrText, At: 5}, {E: api.ErrRange}, {E: api.ErrWho},
		{},
		{At: 2, Rows: read("1*[1] 1*[2]"), Fresh: true},
	} {
		want = append(want, wrote(a))
	}
	if !slices.Equal(got, want) || e != api.OK {
		t.Errorf("%v, %d, want %v", got, e, want)
	}
	if want := behind(t, New(), watch(nodes), join(0), add(1), add(1), take(0)); !same(right(t, d), want) {
		t.Errorf("%s, want %s", told(d), told(want))
	}
}

func TestRunOfNothing(t *testing.T) {
	for _, l := range [][]api.Request{nil, {}} {
		if d, got, e := Run(l); !same(d, New()) || len(got) != 0 || e != api.OK {
			t.Errorf("%s, %v, %d", told(d), got, e)
		}
	}
	// What isn't done leaves nothing behind, whatever comes then.
	d, l, e := Run([]api.Request{{}, join(0), take(0), watch(long()), commit(drop(1)), crash(1), asking("")})
	if !same(d, New()) || len(l) != 7 || e != api.OK {
		t.Errorf("%s, %v, %d", told(d), l, e)
	}
}

// Run goes on with the desk ahead where a request isn't done: none may have touched it, nor the room behind its lists.
func TestRequestsLeaveTheDeskAheadAsItIs(t *testing.T) {
	for _, r := range []api.Request{add(1), commit(drop(1)), asking(nodes), watch(nodes), watch(long()), join(2), join(9), take(0), take(1), crash(0), crash(-1), {}} {
		d, was := some(t), some(t)
		d.Views, d.Guests = append(make([]api.Hold, 0, 9), d.Views...), append(make([]api.Guest, 0, 9), d.Guests[:3]...)
		was.Views, was.Guests = append(was.Views, make([]api.Hold, 6)...), append(was.Guests[:3], make([]api.Guest, 6)...)
		next(d, r)
		d.Views, d.Guests = d.Views[:9], d.Guests[:9]
		if !same(d, was) {
			t.Errorf("%v: %s, was %s", r, told(d), told(was))
		}
	}
}

func TestRunOfMany(t *testing.T) {
	for _, n := range []int{api.MaxScript - 1, api.MaxScript} {
		if d, l, e := Run(slices.Repeat([]api.Request{commit()}, n)); right(t, d).S.At != n || len(l) != n || l[n-1].At != n || e != api.OK {
			t.Errorf("%d: %d, %d, %d", n, d.S.At, len(l), e)
		}
	}
	for _, n := range []int{api.MaxScript + 1, 1000} {
		if d, l, e := Run(make([]api.Request, n)); !same(d, api.Desk{}) || l != nil || e != api.ErrMany {
			t.Errorf("%d: %s, %v, %d", n, told(d), l, e)
		}
	}
}

// sums holds what Sum tells against want, or against an error.
func sums(t *testing.T, has, comes api.Bag, anew bool, want string, f api.Errno) {
	t.Helper()
	got, e := Sum(has, comes, anew)
	if wrote(api.Answer{Rows: got}) != wrote(api.Answer{Rows: read(want)}) || e != f {
		t.Errorf("%v and %v, anew %v: %v, %d, want %s, %d", has, comes, anew, got, e, want, f)
	}
}

func TestSum(t *testing.T) {
	for _, c := range []struct{ has, comes, sum string }{
		{"", "", ""},
		{"1*[1]", "", "1*[1]"},
		{"", "1*[1]", "1*[1]"},
		{"1*[1]", "1*[1]", "2*[1]"},
		{"1*[1]", "-1*[1]", ""},
		{"", "-1*[1]", "-1*[1]"},
		{"2*[1] 1*[3]", "-1*[1] 1*[2] -1*[3]", "1*[1] 1*[2]"},
		{"1099511627776*[1]", "1*[null] -1*[1]", "1*[null] 1099511627775*[1]"},
	} {
		sums(t, read(c.has), read(c.comes), false, c.sum, api.OK)
		sums(t, read(c.has), read(c.comes), true, c.comes, api.OK)
	}
}

// Who begins anew isn't asked what he has.
func TestSumRefuses(t *testing.T) {
	right, often, falls := read("1*[1]"), read("1099511627777*[1]"), read("1*[2] 1*[1]")
	sums(t, often, right, false, "", api.ErrRange)
	sums(t, often, right, true, "1*[1]", api.OK)
	sums(t, falls, often, false, "", api.ErrForm)
	sums(t, often, falls, false, "", api.ErrRange)
	sums(t, often, falls, true, "", api.ErrForm)
	sums(t, right, often, false, "", api.ErrRange)
	sums(t, right, read("1099511627776*[1]"), false, "", api.ErrRange)
	sums(t, right, read("1099511627776*[1]"), true, "1099511627776*[1]", api.OK)
	sums(t, numbered(1, api.MaxRows), read("1*[0]"), false, "", api.ErrMany)
	sums(t, numbered(1, api.MaxRows+1), read("1*[0]"), false, "", api.ErrMany)
	sums(t, numbered(1, api.MaxRows+1), read("1*[0]"), true, "1*[0]", api.OK)
}
