package guest

import (
	"fmt"
	"strconv"
	"strings"
	"testing"

	"espalier/api"
	"espalier/fresh"
	"espalier/sample"
	"espalier/value"
)

// mostTimes is how often a row may stand in a bag.
const mostTimes = 1 << 40

// read is the bag of a text, with blanks between: of each row how often, `*`, and the row. It need not be right.
func read(text string) api.Bag {
	var b api.Bag
	for _, s := range strings.Fields(text) {
		times, r, _ := strings.Cut(s, "*")
		n, err := strconv.Atoi(times)
		v, _, e := value.Parse(r)
		if err != nil || e != api.OK || v.Kind != api.List {
			panic(text)
		}
		b = append(b, api.Count{R: v.L, N: n})
	}
	return b
}

// wrote is the text of which read makes a bag.
func wrote(b api.Bag) string {
	var l []string
	for _, c := range b {
		r, e := value.Print(api.Value{Kind: api.List, L: c.R})
		if e != api.OK {
			r = "error " + strconv.Itoa(int(e))
		}
		l = append(l, strconv.Itoa(c.N)+"*"+r)
	}
	return strings.Join(l, " ")
}

// queue are the bags of a text, with `;` between.
func queue(text string) []api.Bag {
	var l []api.Bag
	for _, s := range strings.Split(text, ";") {
		l = append(l, read(s))
	}
	return l
}

// numbered are so many rows of a number each, from first on, each so often.
func numbered(many, first, times int) api.Bag {
	var b api.Bag
	for i := range many {
		b = append(b, api.Count{R: api.Row{sample.Int(first + i)}, N: times})
	}
	return b
}

// ones are so many bags, each of the same row.
func ones(many int) []api.Bag {
	var l []api.Bag
	for range many {
		l = append(l, read("1*[7]"))
	}
	return l
}

// told is a guest as a text that no other has: lists that have nothing in them are the same.
func told(u api.Guest) string { return fmt.Sprintf("%#v", fresh.Guest(u)) }

// wrongs are bags that aren't right, by the error that chapter 9's Check tells of them.
func wrongs() map[api.Errno]api.Bag {
	return map[api.Errno]api.Bag{
		api.ErrMany:  {{R: api.Row{sample.LongText()}, N: 1}},
		api.ErrForm:  read("1*[2] 1*[1]"),
		api.ErrRange: numbered(1, 0, mostTimes+1),
	}
}

// tells holds an answer of Tell against a guest.
func tells(t *testing.T, what string, got api.Guest, e api.Errno, want api.Guest) {
	t.Helper()
	if e != api.OK || told(got) != told(want) {
		t.Errorf("%s: %s, %d, want %s", what, told(got), e, told(want))
	}
	if e := Check(got); e != api.OK {
		t.Errorf("%s: the guest isn't right: %d", what, e)
	}
}

// refuses tells whether both Tell and Take have that error, with nothing beside it.
func refuses(t *testing.T, what string, u api.Guest, b api.Bag, at int, want api.Errno) {
	t.Helper()
	if got, e := Tell(u, b); e != want || told(got) != told(api.Guest{}) {
		t.Errorf("Tell, %s: %s, %d, want %d", what, told(got), e, want)
	}
	refusesTake(t, what, u, b, at, want)
}

func refusesTake(t *testing.T, what string, u api.Guest, all api.Bag, at int, want api.Errno) {
	t.Helper()
	if got, b, anew, e := Take(u, all, at); e != want || told(got) != told(api.Guest{}) || b != nil || anew {
		t.Errorf("Take, %s: %s, %s, %v, %d, want %d", what, told(got), wrote(b), anew, e, want)
	}
}
