package port

import (
	"testing"

	"espalier/api"
)

func TestPrint(t *testing.T) {
	for want, g := range map[string]api.Graph{
		townText:                          town(),
		"next 1\n":                        {Next: 1},
		"next 1099511627776\n":            {Next: 1 << 40},
		"next 2\nnode 1\n":                {Nodes: nodes(1), Next: 2},
		"next 4\nnode 1\nedge 3 1 1 :T\n": {Nodes: nodes(1), Edges: loops(1, 2), Next: 4},
		"next 4\nnode 2\nnode 3\nedge 1 3 2 :T n0=0 n1=1\n": {
			Nodes: []api.Node{{ID: 2}, {ID: 3}}, Next: 4,
			Edges: []api.Edge{{ID: 1, From: 3, To: 2, Type: "T", Props: numbered(2)}},
		},
		"next 2\nnode 1 :a :b\n":                                    {Nodes: []api.Node{{ID: 1, Labels: []string{"a", "b"}}}, Next: 2},
		"next 2\nnode 1 a=true b=false\n":                           one(prop("a", api.Value{Kind: api.Bool, N: 1}), prop("b", api.Value{Kind: api.Bool})),
		"next 2\nnode 1 p=-7\n":                                     one(prop("p", num(-7))),
		"next 2\nnode 1 p=''\n":                                     one(prop("p", str(""))),
		"next 2\nnode 1 p=' '\n":                                    one(prop("p", str(" "))),
		"next 2\nnode 1 p='a  b' q=1\n":                             one(prop("p", str("a  b")), prop("q", num(1))),
		`next 2` + "\n" + `node 1 p='it\'s' q='\' r=1\''` + "\n":    one(prop("p", str("it's")), prop("q", str("' r=1'"))),
		`next 2` + "\n" + `node 1 p='\\' q='a\nb\n' r='\\n'` + "\n": one(prop("p", str(`\`)), prop("q", str("a\nb\n")), prop("r", str(`\n`))),
		"next 2\nnode 1 p='q=1 :a' q='\t\r\x00é€'\n":                one(prop("p", str("q=1 :a")), prop("q", str("\t\r\x00é€"))),
		"next 2\nnode 1 p=[] q=[null,[' ',1]] r=['a b','\\' ']\n":   one(prop("p", lot()), prop("q", lot(null, lot(str(" "), num(1)))), prop("r", lot(str("a b"), str("' ")))),
	} {
		if s, e := Print(g); s != want || e != api.OK {
			t.Errorf("%s: %q, %d, want %q", told(g), s, e, want)
		}
		checkRead(t, want, g)
	}
	checkRead(t, printed(t, full()), full())
}

// What chapter 3 says of a graph is said here, too.
func TestPrintRefuses(t *testing.T) {
	node := func(n api.Node) api.Graph { return api.Graph{Nodes: []api.Node{n}, Next: 9} }
	edge := func(x api.Edge) api.Graph { return api.Graph{Nodes: nodes(2), Edges: []api.Edge{x}, Next: 9} }
	tooLong := prop("p", str(letters(api.MaxText)))
	for what, c := range map[string]struct {
		g    api.Graph
		want api.Errno
	}{
		"too many nodes":    {api.Graph{Nodes: nodes(api.MaxNodes + 1), Next: 99}, api.ErrMany},
		"too many edges":    {api.Graph{Nodes: nodes(1), Edges: loops(api.MaxEdges+1, 1), Next: 99}, api.ErrMany},
		"no number":         {node(api.Node{}), api.ErrForm},
		"a number below 0":  {node(api.Node{ID: -1}), api.ErrForm},
		"too many labels":   {node(api.Node{ID: 1, Labels: names(api.MaxLabels + 1)}), api.ErrMany},
		"labels fall":       {node(api.Node{ID: 1, Labels: []string{"b", "a"}}), api.ErrForm},
		"no label":          {node(api.Node{ID: 1, Labels: []string{""}}), api.ErrForm},
		"a label of two":    {node(api.Node{ID: 1, Labels: []string{"a :b"}}), api.ErrForm},
		"too many props":    {node(api.Node{ID: 1, Props: numbered(api.MaxProps + 1)}), api.ErrMany},
		"null":              {one(prop("p", null)), api.ErrForm},
		"no text":           {one(prop("p", wrongText())), api.ErrForm},
		"a text too long":   {one(prop("p", longText())), api.ErrMany},
		"a node's number":   {edge(api.Edge{ID: 2, From: 1, To: 2, Type: "T"}), api.ErrForm},
		"no type":           {edge(api.Edge{ID: 3, From: 1, To: 2}), api.ErrForm},
		"from nowhere":      {edge(api.Edge{ID: 3, From: 3, To: 2, Type: "T"}), api.ErrWho},
		"to nowhere":        {edge(api.Edge{ID: 3, From: 1, Type: "T"}), api.ErrWho},
		"an edge's null":    {edge(api.Edge{ID: 3, From: 1, To: 2, Type: "T", Props: props(prop("p", null))}), api.ErrForm},
		"no next":           {api.Graph{}, api.ErrRange},
		"next is a node's":  {api.Graph{Nodes: nodes(2), Next: 2}, api.ErrRange},
		"next is too great": {api.Graph{Next: 1<<40 + 1}, api.ErrRange},

		"a node's text that prints too long":   {one(tooLong), api.ErrMany},
		"an edge's text that prints too long":  {edge(api.Edge{ID: 3, From: 1, To: 2, Type: "T", Props: props(tooLong)}), api.ErrMany},
		"one that is right behind it":          {one(tooLong, prop("q", num(1))), api.ErrMany},
		"too long, and next is a node's":       {api.Graph{Nodes: one(tooLong).Nodes, Next: 1}, api.ErrRange},
		"too long, and null":                   {one(tooLong, prop("q", null)), api.ErrForm},
		"all too long, and next is too great":  {api.Graph{Nodes: sized(mostBytes + 1).Nodes, Next: 1<<40 + 1}, api.ErrRange},
		"a list of which each value is right":  {one(prop("p", lot(str(letters(3000)), str(letters(3000))))), api.ErrMany},
		"a text that is too long by its signs": {one(prop("p", str(letters(api.MaxText-3)+"'"))), api.ErrMany},
	} {
		if s, e := Print(c.g); s != "" || e != c.want {
			t.Errorf("%s: %.80q, %d, want %d", what, s, e, c.want)
		}
	}
}

func TestLongestTexts(t *testing.T) {
	longest := one(prop("p", str(letters(api.MaxText-2))))
	checkRead(t, printed(t, longest), longest)
	for long := mostBytes - 2; long <= mostBytes; long++ {
		s := printed(t, sized(long))
		if len(s) != long {
			t.Fatalf("%d bytes, want %d", len(s), long)
		}
		checkRead(t, s, sized(long))
	}
	for long := mostBytes + 1; long <= mostBytes+2; long++ {
		if s, e := Print(sized(long)); s != "" || e != api.ErrMany {
			t.Errorf("%d bytes: %.80q, %d", long, s, e)
		}
	}
}
