package index

import (
	"reflect"
	"slices"
	"testing"

	"espalier/api"
	"espalier/sample"
)

func TestOf(t *testing.T) {
	null := api.Value{}
	yes, no := api.Value{Kind: api.Bool, N: 1}, api.Value{Kind: api.Bool}
	for _, c := range []struct {
		what string
		g    api.Graph
		want string
	}{
		{"a town", town(), "Dog:2 Dog.age=3:2 Dog.name='Rex':2 Person:3,7 Person.likes=[1,['a',null]]:3 Pet:2 Pet.age=3:2 Pet.name='Rex':2"},
		{"nothing", api.Graph{Next: 1}, ""},
		{"nodes without labels", graphOf(node(1, "", prop("x", num(1))), node(2, "")), ""},
		{"a label alone", graphOf(node(4, "A")), "A:4"},
		{"two nodes of one value", graphOf(node(1, "A", prop("x", num(1))), node(2, "A", prop("x", num(1)))), "A:1,2 A.x=1:1,2"},
		{"the value comes and goes", graphOf(node(1, "A", prop("x", num(5))), node(2, "A", prop("x", num(-5))), node(3, "A", prop("x", num(5))), node(4, "A", prop("y", num(5)))),
			"A:1,2,3,4 A.x=-5:2 A.x=5:1,3 A.y=5:4"},
		{"some have the property without the label", graphOf(node(1, "A", prop("x", num(1))), node(2, "B", prop("x", num(1))), node(3, "", prop("x", num(1)))), "A:1 A.x=1:1 B:2 B.x=1:2"},
		{"names by their bytes", graphOf(node(1, "B _ a", prop("Z", num(1)), prop("_", num(2)), prop("b", num(3))), node(2, "A AB B1")),
			"A:2 AB:2 B:1 B.Z=1:1 B._=2:1 B.b=3:1 B1:2 _:1 _.Z=1:1 _._=2:1 _.b=3:1 a:1 a.Z=1:1 a._=2:1 a.b=3:1"},
		{"a property named as its label", graphOf(node(1, "A", prop("A", num(1))), node(2, "A B")), "A:1,2 A.A=1:1 B:2"},
		{"values by kind", graphOf(node(1, "A", prop("x", list())), node(2, "A", prop("x", str(""))), node(3, "A", prop("x", num(0))), node(4, "A", prop("x", no)), node(5, "A", prop("x", yes)), node(6, "A", prop("x", num(1)))),
			"A:1,2,3,4,5,6 A.x=false:4 A.x=true:5 A.x=0:3 A.x=1:6 A.x='':2 A.x=[]:1"},
		{"numbers by size", graphOf(node(1, "A", prop("x", num(10))), node(2, "A", prop("x", num(9))), node(3, "A", prop("x", num(-1<<63))), node(4, "A", prop("x", num(1<<63-1)))),
			"A:1,2,3,4 A.x=-9223372036854775808:3 A.x=9:2 A.x=10:1 A.x=9223372036854775807:4"},
		{"texts by bytes", graphOf(node(1, "A", prop("x", str("b"))), node(2, "A", prop("x", str("ab"))), node(3, "A", prop("x", str("a"))), node(4, "A", prop("x", str("é"))), node(5, "A", prop("x", str("B")))),
			"A:1,2,3,4,5 A.x='B':5 A.x='a':3 A.x='ab':2 A.x='b':1 A.x='é':4"},
		{"lists value by value", graphOf(node(1, "A", prop("x", list(num(2)))), node(2, "A", prop("x", list(num(1), null))), node(3, "A", prop("x", list(num(1)))), node(4, "A", prop("x", list(null, num(9))))),
			"A:1,2,3,4 A.x=[null,9]:4 A.x=[1]:3 A.x=[1,null]:2 A.x=[2]:1"},
		{"lists with nulls are the same", graphOf(node(1, "A", prop("x", list(null))), node(2, "A", prop("x", list(null)))), "A:1,2 A.x=[null]:1,2"},
		{"lists of nothing, nil or not", graphOf(node(1, "A", prop("x", api.Value{Kind: api.List})), node(2, "A", prop("x", api.Value{Kind: api.List, L: []api.Value{}}))), "A:1,2 A.x=[]:1,2"},
	} {
		if l, e := Of(c.g); told(l) != c.want || e != api.OK {
			t.Errorf("%s: %s, %d, want %s", c.what, told(l), e, c.want)
		}
	}
}

// What a graph may have at most makes no difference.
func TestOfTheGreatestGraph(t *testing.T) {
	g := api.Graph{Next: api.MaxNodes + 1}
	for i := range api.MaxNodes {
		n := api.Node{ID: i + 1, Labels: sample.Names(api.MaxLabels)}
		for _, name := range sample.Names(api.MaxProps) {
			n.Props = append(n.Props, prop(name, num(-i)))
		}
		g.Nodes = append(g.Nodes, n)
	}
	l := entriesOf(t, g)
	if want := api.MaxLabels * (1 + api.MaxProps*api.MaxNodes); len(l) != want {
		t.Fatalf("%d entries, want %d", len(l), want)
	}
	if len(l[0].IDs) != api.MaxNodes || l[1].V.N != 1-api.MaxNodes || ids(l[1].IDs) != "40" {
		t.Errorf("%v", l[:2])
	}
	if got, e := Find(l, "n3", "n5", num(-6)); ids(got) != "7" || e != api.OK {
		t.Errorf("%v, %d", got, e)
	}
}

// However many nodes have the same value, they rise.
func TestManyOfTheSameValueRise(t *testing.T) {
	var l []api.Node
	for i := range api.MaxNodes {
		l = append(l, node(i+1, "A", prop("x", num(i*7%3))))
	}
	for _, x := range entriesOf(t, graphOf(l...)) {
		if !slices.IsSorted(x.IDs) || x.Prop != "" && len(x.IDs) < 13 {
			t.Errorf("%s=%s: %v", x.Prop, written(x.V), x.IDs)
		}
	}
}

// wrong are graphs of which chapter 3's Check has each of its errors.
func wrong() map[api.Errno]api.Graph {
	form, who, many := town(), town(), town()
	form.Nodes[1].Labels = []string{"Person", "Cat"}
	who.Edges[4].To = 1
	many.Edges[4].Props = sample.Numbered(api.MaxProps + 1)
	return map[api.Errno]api.Graph{api.ErrForm: form, api.ErrWho: who, api.ErrMany: many, api.ErrRange: {}}
}

func TestWrongGraphs(t *testing.T) {
	l := entriesOf(t, town())
	for want, g := range wrong() {
		if l, e := Of(g); l != nil || e != want {
			t.Errorf("Of: %v, %d, want %d", l, e, want)
		}
		if labels, many, e := Count(g); labels != nil || many != nil || e != want {
			t.Errorf("Count: %v, %v, %d, want %d", labels, many, e, want)
		}
		for _, b := range []api.Graph{town(), {}, {Next: 1}} {
			for _, l := range [][]api.Entry{nil, l} {
				if m, e := Step(l, g, b); m != nil || e != want {
					t.Errorf("Step of the graph ahead: %v, %d, want %d", m, e, want)
				}
			}
		}
		if m, e := Step(l, town(), g); m != nil || e != want {
			t.Errorf("Step to it: %v, %d, want %d", m, e, want)
		}
		if m, e := Step(l[1:], town(), g); m != nil || e != api.ErrForm {
			t.Errorf("Step to it, of other entries: %v, %d, want %d", m, e, api.ErrForm)
		}
	}
}

func TestStep(t *testing.T) {
	none, l := api.Graph{Next: 1}, entriesOf(t, town())
	later := town()
	later.Nodes = append(later.Nodes, node(13, "Cat Pet", prop("age", num(3))))
	later.Nodes[0].Props, later.Next = props(prop("name", str("Max"))), 14
	for _, c := range []struct {
		what string
		l    []api.Entry
		a, b api.Graph
		want string
	}{
		{"nothing changed", l, town(), town(), told(l)},
		{"all goes", l, town(), none, ""},
		{"all comes", nil, none, town(), told(l)},
		{"all comes, to an empty list", []api.Entry{}, none, town(), told(l)},
		{"something changes", l, town(), later, "Cat:13 Cat.age=3:13 Dog:2 Dog.name='Max':2 Person:3,7 Person.likes=[1,['a',null]]:3 Pet:2,13 Pet.age=3:13 Pet.name='Max':2"},
	} {
		if m, e := Step(c.l, c.a, c.b); told(m) != c.want || e != api.OK {
			t.Errorf("%s: %s, %d, want %s", c.what, told(m), e, c.want)
		}
	}
}

// Entries that aren't those of the graph ahead are refused, however little they differ.
func TestStepRefuses(t *testing.T) {
	for what, change := range map[string]func([]api.Entry) []api.Entry{
		"none":                         func(l []api.Entry) []api.Entry { return nil },
		"the first is left out":        func(l []api.Entry) []api.Entry { return l[1:] },
		"the last is left out":         func(l []api.Entry) []api.Entry { return l[:len(l)-1] },
		"one more":                     func(l []api.Entry) []api.Entry { return append(l, api.Entry{Label: "Q"}) },
		"one twice":                    func(l []api.Entry) []api.Entry { return append(l, l[len(l)-1]) },
		"two change places":            func(l []api.Entry) []api.Entry { l[0], l[1] = l[1], l[0]; return l },
		"another label":                func(l []api.Entry) []api.Entry { l[0].Label = "Dof"; return l },
		"another property":             func(l []api.Entry) []api.Entry { l[1].Prop = "agf"; return l },
		"no property":                  func(l []api.Entry) []api.Entry { l[1].Prop = ""; return l },
		"a property of a label":        func(l []api.Entry) []api.Entry { l[0].Prop = "age"; return l },
		"a value of a label":           func(l []api.Entry) []api.Entry { l[0].V = num(0); return l },
		"a number in a Null":           func(l []api.Entry) []api.Entry { l[0].V.N = 1; return l },
		"a text in a Null":             func(l []api.Entry) []api.Entry { l[0].V.S = "a"; return l },
		"a list in a Null":             func(l []api.Entry) []api.Entry { l[0].V.L = []api.Value{{}}; return l },
		"another number":               func(l []api.Entry) []api.Entry { l[1].V.N = 4; return l },
		"another kind":                 func(l []api.Entry) []api.Entry { l[1].V.Kind = api.Bool; return l },
		"another text":                 func(l []api.Entry) []api.Entry { l[2].V.S = "rex"; return l },
		"another value within a value": func(l []api.Entry) []api.Entry { l[4].V.L[1].L[1] = num(0); return l },
		"another node":                 func(l []api.Entry) []api.Entry { l[0].IDs = []int{3}; return l },
		"one more node":                func(l []api.Entry) []api.Entry { l[0].IDs = []int{2, 3}; return l },
		"one less node":                func(l []api.Entry) []api.Entry { l[3].IDs = []int{3}; return l },
		"no node":                      func(l []api.Entry) []api.Entry { l[0].IDs = nil; return l },
		"nodes that fall":              func(l []api.Entry) []api.Entry { l[3].IDs = []int{7, 3}; return l },
		"a node twice":                 func(l []api.Entry) []api.Entry { l[3].IDs = []int{3, 3, 7}; return l },
	} {
		for _, b := range []api.Graph{town(), {Next: 1}, {}} {
			if m, e := Step(change(entriesOf(t, town())), town(), b); m != nil || e != api.ErrForm {
				t.Errorf("%s: %v, %d", what, m, e)
			}
		}
	}
}

// A list that has nothing in it may be nil or empty.
func TestStepTakesEmptyLists(t *testing.T) {
	l := entriesOf(t, town())
	for i := range l {
		l[i].V.L = append([]api.Value{}, l[i].V.L...)
	}
	if m, e := Step(l, town(), town()); told(m) != told(l) || e != api.OK {
		t.Errorf("%s, %d", told(m), e)
	}
}

func TestFind(t *testing.T) {
	null := api.Value{}
	l := entriesOf(t, town())
	for _, c := range []struct {
		label, prop string
		v           api.Value
		want        string
	}{
		{"Dog", "", null, "2"},
		{"Person", "", null, "3,7"},
		{"Person", "", num(9), "3,7"},
		{"Pet", "", str("Rex"), "2"},
		{"Pet", "name", str("Rex"), "2"},
		{"Pet", "age", num(3), "2"},
		{"Person", "likes", list(num(1), list(str("a"), null)), "3"},
		{"Person", "likes", list(num(1), list(str("a"))), ""},
		{"Person", "likes", null, ""},
		{"Pet", "name", str("rex"), ""},
		{"Pet", "name", null, ""},
		{"Pet", "age", str("3"), ""},
		{"Pet", "age", api.Value{Kind: api.Bool, N: 1}, ""},
		{"Pet", "nam", str("Rex"), ""},
		{"Person", "age", num(3), ""},
		{"KNOWS", "", null, ""},
		{"OWNS", "since", num(2020), ""},
		{"", "", null, ""},
		{"", "age", num(3), ""},
		{"dog", "", null, ""},
		{"no name", "no name", null, ""},
		{"\xff", "\xff", null, ""},
	} {
		if got, e := Find(l, c.label, c.prop, c.v); ids(got) != c.want || e != api.OK {
			t.Errorf("%s.%s=%s: %v, %d, want %s", c.label, c.prop, written(c.v), got, e, c.want)
		}
	}
	for _, l := range [][]api.Entry{nil, {}} {
		if got, e := Find(l, "Dog", "", null); len(got) != 0 || e != api.OK {
			t.Errorf("of nothing: %v, %d", got, e)
		}
	}
}

func TestFindRefuses(t *testing.T) {
	long, wrong, right := api.Entry{V: longText()}, api.Entry{V: wrongText()}, api.Entry{Label: "Dog", IDs: []int{1}}
	deep := num(1)
	for range api.MaxDeep + 1 {
		deep = list(deep)
	}
	most := make([]api.Entry, 10*api.MaxRows)
	most[0] = right
	full := append(slices.Clip(most), right)
	spoilt := slices.Clone(most)
	spoilt[len(spoilt)-1] = long
	for _, c := range []struct {
		what string
		l    []api.Entry
		v    api.Value
		want api.Errno
	}{
		{"as many as may be", most, num(1), api.OK},
		{"too many", full, num(1), api.ErrMany},
		{"too many, and wrong", append([]api.Entry{wrong}, full...), wrongText(), api.ErrMany},
		{"the last is wrong", spoilt, wrongText(), api.ErrMany},
		{"one that is wrong", []api.Entry{right, wrong}, num(1), api.ErrForm},
		{"the first of two", []api.Entry{right, wrong, long}, num(1), api.ErrForm},
		{"the first of two, the other way", []api.Entry{right, long, wrong}, num(1), api.ErrMany},
		{"entries ahead of the value", []api.Entry{right, wrong}, longText(), api.ErrForm},
		{"entries ahead of the value, the other way", []api.Entry{long, right}, wrongText(), api.ErrMany},
		{"the value", []api.Entry{right}, wrongText(), api.ErrForm},
		{"the value is long", []api.Entry{right}, longText(), api.ErrMany},
		{"the value is deep", []api.Entry{right}, deep, api.ErrMany},
		{"the value, of nothing", nil, api.Value{Kind: 9}, api.ErrForm},
		{"a Null with a number", []api.Entry{right}, api.Value{N: 1}, api.ErrForm},
	} {
		// The value is asked of a label alone, too.
		for _, prop := range []string{"", "age"} {
			got, e := Find(c.l, "Dog", prop, c.v)
			if e != c.want || (e != api.OK && got != nil) {
				t.Errorf("%s: %v, %d, want %d", c.what, got, e, c.want)
			}
		}
	}
	if got, e := Find(most, "Dog", "", num(1)); ids(got) != "1" || e != api.OK {
		t.Errorf("as many as may be: %v, %d", got, e)
	}
}

func TestCount(t *testing.T) {
	for _, c := range []struct {
		g      api.Graph
		labels []string
		many   []int
	}{
		{town(), []string{"Dog", "Person", "Pet"}, []int{1, 2, 1}},
		{api.Graph{Next: 1}, nil, nil},
		{graphOf(node(1, ""), node(2, "", prop("x", num(1)))), nil, nil},
		{graphOf(node(1, "a"), node(2, "B _"), node(3, "B1 a"), node(4, "B a", prop("B", num(1)), prop("C", num(2)))), []string{"B", "B1", "_", "a"}, []int{2, 1, 1, 3}},
	} {
		labels, many, e := Count(c.g)
		if !slices.Equal(labels, c.labels) || !slices.Equal(many, c.many) || e != api.OK {
			t.Errorf("%v: %v, %v, %d, want %v, %v", c.g, labels, many, e, c.labels, c.many)
		}
	}
}

// What is answered may be changed, and nothing else changes with it.
func TestNothingIsShared(t *testing.T) {
	g := town()
	l := entriesOf(t, g)
	found, _ := Find(l, "Person", "", api.Value{})
	found[0] = -1
	if told(l) != told(entriesOf(t, town())) {
		t.Errorf("the entries are changed: %s", told(l))
	}
	for _, x := range l {
		x.IDs[0] = -1
		for i := range x.V.L {
			x.V.L[i] = str("spoilt")
		}
	}
	if !reflect.DeepEqual(g, town()) {
		t.Errorf("the graph is changed: %v", g)
	}
}
