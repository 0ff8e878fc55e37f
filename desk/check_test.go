package desk

import (
	"slices"
	"strings"
	"testing"

	"espalier/api"
	"espalier/sample"
)

func TestNew(t *testing.T) {
	if got, want := told(right(t, New())), told(api.Desk{S: api.Store{G: api.Graph{Next: 1}}}); got != want {
		t.Errorf("%s, want %s", got, want)
	}
}

func TestCheckTakes(t *testing.T) {
	row := read("1*[7]")
	for what, bend := range map[string]func(d *api.Desk){
		"all that it can have":         func(d *api.Desk) {},
		"no guests":                    func(d *api.Desk) { d.Guests = nil },
		"no guests, in an empty list":  func(d *api.Desk) { d.Guests = []api.Guest{} },
		"a guest of the last view":     func(d *api.Desk) { d.Guests[0] = api.Guest{View: 2} },
		"a guest as late as the store": func(d *api.Desk) { d.Guests[0].At = d.S.At },
		"what no view told":            func(d *api.Desk) { d.Guests[0].Queue = []api.Bag{row, row, row} },
		"all is safe":                  func(d *api.Desk) { d.S.Log = api.Disk{Safe: d.S.Log.Safe + d.S.Log.Wait} },
		"nothing is safe":              func(d *api.Desk) { d.S.Log = api.Disk{Wait: d.S.Log.Safe + d.S.Log.Wait} },
	} {
		d := some(t)
		bend(&d)
		if e := Check(d); e != api.OK {
			t.Errorf("%s: %d", what, e)
		}
	}
	// A question is held against what is read of a text, not against the text.
	for _, text := range []string{" match\t(a)return a as n\n", "match (a) return (((a))) as n"} {
		d := of(t, stored(t, add(1), watch(text)))
		right(t, d)
		d.Views[0] = view(t, nodes, d.S.G)
		right(t, d)
	}
}

// Each of these is refused for a reason that is told ahead of all others that hold of it, too.
func TestCheckRefuses(t *testing.T) {
	for what, c := range map[string]struct {
		bend func(d *api.Desk)
		want api.Errno
	}{
		"a wrong graph, no views":         {func(d *api.Desk) { d.S.G.Edges[0].To, d.Views = 9, nil }, api.ErrWho},
		"too long a log, no views":        {func(d *api.Desk) { d.S.Log.Wait, d.Views = strings.Repeat("a", api.MaxDisk), nil }, api.ErrMany},
		"a torn base, no views":           {func(d *api.Desk) { d.S.Base, d.Views = d.S.Base[1:], nil }, api.ErrTorn},
		"a commit more":                   {func(d *api.Desk) { d.S.At++ }, api.ErrForm},
		"a question more, and its view":   {func(d *api.Desk) { d.S.Text, d.Views = append(d.S.Text, nodes), append(d.Views, d.Views[0]) }, api.ErrForm},
		"no views":                        {func(d *api.Desk) { d.Views = nil }, api.ErrForm},
		"a view fewer, a wrong one":       {func(d *api.Desk) { d.Views = []api.Hold{{}, d.Views[1]} }, api.ErrForm},
		"a view more, many guests":        {func(d *api.Desk) { d.Views, d.Guests = append(d.Views, d.Views[2]), make([]api.Guest, 5) }, api.ErrForm},
		"no question":                     {func(d *api.Desk) { d.Views[0].Q = api.Query{} }, api.ErrMany},
		"no question, other ways":         {func(d *api.Desk) { d.Views[0] = api.Hold{Found: [][]int{{9}}} }, api.ErrMany},
		"a question of nobody":            {func(d *api.Desk) { d.Views[1].Q.Items[1].T.Name = "c" }, api.ErrWho},
		"a question that is too long":     {func(d *api.Desk) { d.Views[1].Q.Items = longItems() }, api.ErrMany},
		"another question":                {func(d *api.Desk) { d.Views[0].Q.Distinct = true }, api.ErrForm},
		"another name":                    {func(d *api.Desk) { d.Views[0].Q.Items[0].Name = "m" }, api.ErrForm},
		"another question, other ways":    {func(d *api.Desk) { d.Views[0].Q.Distinct, d.Views[0].Found = true, nil }, api.ErrForm},
		"views turned round":              {func(d *api.Desk) { slices.Reverse(d.Views) }, api.ErrForm},
		"no ways":                         {func(d *api.Desk) { d.Views[1].Found = nil }, api.ErrForm},
		"a way fewer":                     {func(d *api.Desk) { d.Views[1].Found = d.Views[1].Found[1:] }, api.ErrForm},
		"a way more":                      {func(d *api.Desk) { d.Views[2].Found = append(d.Views[2].Found, []int{5}) }, api.ErrForm},
		"another way":                     {func(d *api.Desk) { d.Views[0].Found[0][0] = 2 }, api.ErrForm},
		"other ways, then no question":    {func(d *api.Desk) { d.Views[0].Found, d.Views[1].Q = nil, api.Query{} }, api.ErrForm},
		"no question, then other ways":    {func(d *api.Desk) { d.Views[0].Q, d.Views[1].Found = api.Query{}, nil }, api.ErrMany},
		"other ways, many guests":         {func(d *api.Desk) { d.Views[2].Found, d.Guests = nil, make([]api.Guest, 5) }, api.ErrForm},
		"many guests":                     {func(d *api.Desk) { d.Guests = append(d.Guests, d.Guests[0]) }, api.ErrMany},
		"many guests, a wrong one first":  {func(d *api.Desk) { d.Guests = append([]api.Guest{{View: 9}}, d.Guests...) }, api.ErrMany},
		"a guest of a view below 0":       {func(d *api.Desk) { d.Guests[0].View = -1 }, api.ErrRange},
		"a guest at a commit below 0":     {func(d *api.Desk) { d.Guests[3].At = -1 }, api.ErrRange},
		"an empty bag":                    {func(d *api.Desk) { d.Guests[1] = api.Guest{View: 9, Queue: []api.Bag{nil}} }, api.ErrForm},
		"a bag that falls":                {func(d *api.Desk) { d.Guests[2].Queue[0] = read("1*[2] 1*[1]") }, api.ErrForm},
		"all anew, and a bag":             {func(d *api.Desk) { d.Guests[0].Fresh = true }, api.ErrForm},
		"a long text":                     {func(d *api.Desk) { d.Guests[0].Queue[0][0].R[0] = sample.LongText() }, api.ErrMany},
		"more than may wait, later":       {func(d *api.Desk) { d.Guests[0].Queue, d.Guests[0].At = slices.Repeat(d.Guests[0].Queue, 41), 9 }, api.ErrMany},
		"a guest of no view":              {func(d *api.Desk) { d.Guests[0].View = 3 }, api.ErrWho},
		"a guest of the last number":      {func(d *api.Desk) { d.Guests[3].View = 1<<63 - 1 }, api.ErrWho},
		"a guest later than the store":    {func(d *api.Desk) { d.Guests[0].At = d.S.At + 1 }, api.ErrWho},
		"a guest later than all":          {func(d *api.Desk) { d.Guests[1].At = 1<<63 - 1 }, api.ErrWho},
		"of no view, then one below 0":    {func(d *api.Desk) { d.Guests[0].View, d.Guests[1].View = 3, -1 }, api.ErrWho},
		"one below 0, then of no view":    {func(d *api.Desk) { d.Guests[0].View, d.Guests[1].View = -1, 3 }, api.ErrRange},
		"no guest is of a view, no views": {func(d *api.Desk) { *d = api.Desk{S: New().S, Guests: []api.Guest{{}}} }, api.ErrWho},
	} {
		d := some(t)
		c.bend(&d)
		isWrong(t, what, d, c.want)
	}
}

// isWrong tells whether that is wrong with a desk: Do tells it ahead of whatever it is asked, beside an answer with nothing in it.
func isWrong(t *testing.T, what string, d api.Desk, want api.Errno) {
	t.Helper()
	if e := Check(d); e != want {
		t.Errorf("%s: %d, want %d", what, e, want)
	}
	for _, r := range []api.Request{{}, add(1), commit(api.Op{}), asking(nodes), asking(""), watch(nodes), join(0), join(9), take(0), take(-1), crash(0), crash(-1), {Kind: 7}} {
		if out, a, e := Do(d, r); !same(out, api.Desk{}) || wrote(a) != wrote(api.Answer{}) || e != want {
			t.Errorf("%s, %v: %.200s, %s, %d, want %d", what, r, told(out), wrote(a), e, want)
		}
	}
}

// longItems are right, but together too long to be printed.
func longItems() []api.Item {
	text := sample.Const(sample.Text(strings.Repeat("a", api.MaxText-2)))
	return []api.Item{{Name: "n", T: text}, {Name: "m", T: text}}
}

// A store may have questions of which no view is right.
func TestCheckOfQuestionsWithoutViews(t *testing.T) {
	full, bare := stored(t, watch(steps), add(1), loops(7)), stored(t, add(1))
	tooLong := stored(t, watch(long()))
	for what, c := range map[string]struct {
		d    api.Desk
		want api.Errno
	}{
		"too many ways":                             {api.Desk{S: full, Views: []api.Hold{view(t, steps, bare.G)}}, api.ErrFull},
		"too many ways, no view":                    {api.Desk{S: full}, api.ErrForm},
		"too long to be printed":                    {api.Desk{S: tooLong, Views: []api.Hold{view(t, long(), tooLong.G)}}, api.ErrMany},
		"too long to be printed, a view of another": {api.Desk{S: tooLong, Views: []api.Hold{view(t, nodes, tooLong.G)}}, api.ErrForm},
	} {
		isWrong(t, what, c.d, c.want)
	}
}
