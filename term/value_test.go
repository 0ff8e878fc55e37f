package term

import (
	"strings"
	"testing"

	"espalier/api"
)

// sayCase is a call of some values, and what it says.
type sayCase struct {
	call string
	of   []api.Value
	want api.Value
}

func saysAll(t *testing.T, l []sayCase) {
	t.Helper()
	for _, c := range l {
		x := of(c.call, c.of...)
		if got, e := inTown(x); e != api.OK || !alike(got, c.want) {
			t.Errorf("%s of %v: %v, %d, want %v", c.call, c.of, got, e, c.want)
		}
	}
}

func vals(l ...api.Value) []api.Value { return l }

func TestPlainTerms(t *testing.T) {
	for _, v := range vals(null, no, yes, num(0), num(-1<<63), num(1<<63-1), str(""), str("it's\n日本"), str(strings.Repeat("a", api.MaxText))) {
		says(t, "a constant", constant(v), v)
	}
	says(t, "a node", variable("r"), num(2))
	says(t, "an edge", variable("k"), num(5))
	says(t, "a property", field("r", "name"), str("Rex"))
	says(t, "a property with lists", field("p", "likes"), list(num(1), list(str("a"), null)))
	says(t, "a property of an edge", field("o", "since"), num(2020))
	says(t, "no such property", field("r", "likes"), null)
	says(t, "no properties", field("n", "name"), null)
	says(t, "no properties of an edge", field("k", "since"), null)
	says(t, "a property with a word's name", field("r", "null"), null)
	says(t, "number of a node", apply("id", variable("p")), num(3))
	says(t, "number of an edge", apply("id", variable("o")), num(1))
	says(t, "type", apply("type", variable("o")), str("OWNS"))
	says(t, "another type", apply("type", variable("k")), str("KNOWS"))
}

func TestReckoning(t *testing.T) {
	long, most := str(strings.Repeat("a", 2001)), list(make([]api.Value, 16)...)
	saysAll(t, []sayCase{
		{"+", vals(num(2), num(3)), num(5)},
		{"-", vals(num(2), num(3)), num(-1)},
		{"*", vals(num(2), num(3)), num(6)},
		{"+", vals(num(1<<63-1), num(1)), null},
		{"-", vals(num(-1<<63), num(1)), null},
		{"*", vals(num(1<<62), num(2)), null},
		{"+", vals(null, num(1)), null},
		{"*", vals(num(0), null), null},
		{"+", vals(str("a"), str("b")), str("ab")},
		{"+", vals(str("a"), num(1)), null},
		{"-", vals(str("a"), str("b")), null},
		{"*", vals(yes, yes), null},
		{"+", vals(long, long), null},
		{"+", vals(list(num(1)), list(num(2), null)), list(num(1), num(2), null)},
		{"+", vals(list(), list()), list()},
		{"+", vals(most, most), null},
		{"+", vals(list(num(1)), num(2)), null},
		{"*", vals(list(), list()), null},
	})
}

func TestComparing(t *testing.T) {
	saysAll(t, []sayCase{
		{"=", vals(num(1), num(1)), yes},
		{"=", vals(num(1), num(2)), no},
		{"=", vals(num(1), str("1")), no},
		{"=", vals(null, null), null},
		{"=", vals(null, num(1)), null},
		{"=", vals(list(num(1), null), list(num(1), null)), null},
		{"=", vals(list(num(1), null), list(num(2), null)), no},
		{"=", vals(list(), list()), yes},
		{"<", vals(num(1), num(2)), yes},
		{"<", vals(num(2), num(2)), no},
		{"<", vals(num(3), num(2)), no},
		{"<", vals(str("a"), str("b")), yes},
		{"<", vals(str("b"), str("a")), no},
		{"<", vals(num(1), str("a")), null},
		{"<", vals(null, num(1)), null},
		{"<", vals(no, yes), null},
		{"<", vals(list(), list(num(1))), null},
		{"<=", vals(num(1), num(2)), yes},
		{"<=", vals(num(2), num(2)), yes},
		{"<=", vals(num(3), num(2)), no},
		{"<=", vals(str("b"), str("a")), no},
		{"<=", vals(str("a"), str("a")), yes},
		{"<=", vals(num(1), str("a")), null},
		{"<=", vals(null, null), null},
		{"<=", vals(no, no), null},
	})
}

// What isn't a Bool is neither true nor false.
func TestTruth(t *testing.T) {
	saysAll(t, []sayCase{
		{"not", vals(yes), no},
		{"not", vals(no), yes},
		{"not", vals(null), null},
		{"not", vals(num(0)), null},
		{"not", vals(str("")), null},
		{"not", vals(list()), null},
	})
	other := vals(null, num(0), num(1), str("true"), list(yes))
	for _, x := range other {
		saysAll(t, []sayCase{
			{"or", vals(x, yes), yes}, {"or", vals(yes, x), yes}, {"or", vals(x, no), null}, {"or", vals(no, x), null},
			{"and", vals(x, yes), null}, {"and", vals(yes, x), null}, {"and", vals(x, no), no}, {"and", vals(no, x), no},
		})
		for _, y := range other {
			saysAll(t, []sayCase{{"or", vals(x, y), null}, {"and", vals(x, y), null}})
		}
	}
	saysAll(t, []sayCase{
		{"or", vals(no, no), no}, {"or", vals(no, yes), yes}, {"or", vals(yes, no), yes}, {"or", vals(yes, yes), yes},
		{"and", vals(no, no), no}, {"and", vals(no, yes), no}, {"and", vals(yes, no), no}, {"and", vals(yes, yes), yes},
	})
}

func TestLists(t *testing.T) {
	saysAll(t, []sayCase{
		{"in", vals(num(1), list(num(2), num(1))), yes},
		{"in", vals(num(1), list(null, num(1))), yes},
		{"in", vals(num(1), list(num(1), null)), yes},
		{"in", vals(num(1), list(num(2), null)), null},
		{"in", vals(num(1), list(num(2), num(3))), no},
		{"in", vals(num(1), list(num(2), str("1"), list(num(1)))), no},
		{"in", vals(num(1), list()), no},
		{"in", vals(null, list()), no},
		{"in", vals(null, list(num(1))), null},
		{"in", vals(null, list(null)), null},
		{"in", vals(list(num(1)), list(list(num(1)))), yes},
		{"in", vals(list(null), list(list(num(1)), num(2))), null},
		{"in", vals(num(1), null), null},
		{"in", vals(num(1), num(1)), null},
		{"in", vals(str("a"), str("abc")), null},
		{"null", vals(null), yes},
		{"null", vals(no), no},
		{"null", vals(num(0)), no},
		{"null", vals(list()), no},
		{"null", vals(list(null)), no},
		{"size", vals(str("")), num(0)},
		{"size", vals(str("abc")), num(3)},
		{"size", vals(str("日本é\U0001F600")), num(4)},
		{"size", vals(list()), num(0)},
		{"size", vals(list(null, list(num(1), num(2)))), num(2)},
		{"size", vals(null), null},
		{"size", vals(num(7)), null},
		{"size", vals(yes), null},
		{"head", vals(list(num(1), num(2))), num(1)},
		{"head", vals(list(null, num(2))), null},
		{"head", vals(list(list(num(3)))), list(num(3))},
		{"head", vals(list()), null},
		{"head", vals(str("abc")), null},
		{"head", vals(null), null},
		{"coalesce", nil, null},
		{"coalesce", vals(null), null},
		{"coalesce", vals(null, null, num(2), num(3)), num(2)},
		{"coalesce", vals(no, yes), no},
		{"coalesce", vals(null, list(), num(1)), list()},
		{"coalesce", make([]api.Value, api.MaxList), null},
		{"list", nil, list()},
		{"list", vals(num(1), null, str("a")), list(num(1), null, str("a"))},
		{"list", make([]api.Value, api.MaxList), list(make([]api.Value, api.MaxList)...)},
	})
}

// A property may hold as many lists as a value can; a list around it would be one too many.
func TestListsThatAreTooDeep(t *testing.T) {
	deep := list(num(1))
	for range api.MaxDeep - 1 {
		deep = list(deep)
	}
	g := api.Graph{Nodes: []api.Node{{ID: 1, Props: props(prop("d", deep), prop("e", deep.L[0]))}}, Next: 2}
	ask := func(x api.Term, want api.Value) {
		t.Helper()
		if got, e := Eval(g, []string{"a"}, []int{1}, x); e != api.OK || !alike(got, want) {
			t.Errorf("%v, %d, want %v", got, e, want)
		}
	}
	ask(field("a", "d"), deep)
	ask(apply("list", field("a", "e")), deep)
	ask(apply("list", field("a", "d")), null)
	ask(apply("list", num1(), field("a", "d")), null)
	ask(apply("list", apply("head", field("a", "d"))), deep)
	ask(apply("+", field("a", "d"), field("a", "d")), list(deep.L[0], deep.L[0]))
	ask(apply("null", apply("list", apply("list", field("a", "e")))), yes)
}

func num1() api.Term { return constant(num(1)) }

// No list of an answer may be one that was handed in, nor stand in it twice.
func TestAnswersAreNewMemory(t *testing.T) {
	g := town()
	likes := field("p", "likes")
	for _, x := range []api.Term{likes, apply("list", likes, likes), apply("coalesce", likes), apply("+", likes, likes), apply("head", apply("list", likes))} {
		got, e := Eval(g, townNames, townIDs, x)
		if e != api.OK {
			t.Fatal(e)
		}
		was, _ := Eval(town(), townNames, townIDs, x)
		spoilLists(got.L)
		if again, _ := Eval(g, townNames, townIDs, x); !alike(again, was) {
			t.Errorf("%v: %v, was %v", x, again, was)
		}
	}
	got, _ := Eval(g, townNames, townIDs, apply("list", likes, likes))
	got.L[0].L[0] = num(77)
	if !alike(got.L[1].L[0], num(1)) {
		t.Error("a list stands in an answer twice")
	}
}

func spoilLists(l []api.Value) {
	for i := range l {
		spoilLists(l[i].L)
		l[i].N = 99
	}
}
