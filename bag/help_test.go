package bag

import (
	"slices"
	"strconv"
	"strings"
	"testing"

	"espalier/api"
	"espalier/sample"
	"espalier/value"
)

// row is the one that a list is written as.
func row(text string) api.Row {
	v, _, e := value.Parse(text)
	if e != api.OK || v.Kind != api.List {
		panic(text)
	}
	return v.L
}

// rows are those of a text, with blanks between.
func rows(text string) []api.Row {
	var l []api.Row
	for _, s := range strings.Fields(text) {
		l = append(l, row(s))
	}
	return l
}

// read is the bag of a text, with blanks between: of each row how often, `*`, and the row. It need not be right.
func read(text string) api.Bag {
	var b api.Bag
	for _, s := range strings.Fields(text) {
		times, r, _ := strings.Cut(s, "*")
		n, err := strconv.Atoi(times)
		if err != nil {
			panic(text)
		}
		b = append(b, api.Count{R: row(r), N: n})
	}
	return b
}

// wrote is the text of which read makes a bag.
func wrote(b api.Bag) string {
	var l []string
	for _, c := range b {
		l = append(l, strconv.Itoa(c.N)+"*"+key(c.R))
	}
	return strings.Join(l, " ")
}

// key is a text that no other row has.
func key(r api.Row) string {
	text, e := value.Print(api.Value{Kind: api.List, L: r})
	if e != api.OK {
		return "error " + strconv.Itoa(int(e))
	}
	return text
}

// numbered are so many rows of a number each, from first on, each so often.
func numbered(many, first, times int) api.Bag {
	var b api.Bag
	for i := range many {
		b = append(b, api.Count{R: api.Row{sample.Int(first + i)}, N: times})
	}
	return b
}

// wide is a row of so many times the same value.
func wide(many int, v api.Value) api.Row { return slices.Repeat(api.Row{v}, many) }

// nested is a number within so many lists.
func nested(lists int) api.Value {
	v := sample.Int(1)
	for range lists {
		v = sample.List(v)
	}
	return v
}

// once is the bag that has a row once, and none beside.
func once(r api.Row) api.Bag { return api.Bag{{R: r, N: 1}} }

// tells holds an answer against the text of a bag.
func tells(t *testing.T, what string, got api.Bag, e api.Errno, want string) {
	t.Helper()
	if e != api.OK || wrote(got) != want {
		t.Errorf("%s: %s, %d, want %s", what, wrote(got), e, want)
	}
}

// refuses holds an answer against an error, beside which nothing may stand.
func refuses(t *testing.T, what string, got api.Bag, e, want api.Errno) {
	t.Helper()
	if got != nil || e != want {
		t.Errorf("%s: %d rows, %d, want %d", what, len(got), e, want)
	}
}

// wrongs are bags that aren't right, by the error that Check tells of them; their rows have a value each.
func wrongs() map[api.Errno]api.Bag {
	return map[api.Errno]api.Bag{
		api.ErrMany:  once(api.Row{sample.LongText()}),
		api.ErrForm:  read("1*[2] 1*[1]"),
		api.ErrRange: numbered(1, 0, mostTimes+1),
	}
}
