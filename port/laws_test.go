package port

import (
	"regexp"
	"slices"
	"strconv"
	"strings"
	"testing"

	"espalier/api"
	"espalier/graph"
	"espalier/sample"
	"espalier/value"
)

// pieces are what these tests put together: all that means something in a line, and some that doesn't.
func pieces() []string {
	return []string{" ", " ", "'", "'", `\`, `\'`, `\n`, "\n", "=", ":", "-", "0", "1", "12", "[", "]", ",", "null", "true", "a", "P", "next", "node", "edge", "\t", "\r", "é", "\xff", " :", " p=", " p='", "=' '", "node 3\n", "edge 3 1 1 :T\n"}
}

func anyPieces(s *sample.Source, most int) string {
	l, out := pieces(), ""
	for range s.Below(most + 1) {
		out += l[s.Below(len(l))]
	}
	return out
}

// anyValue is one that chapter 1's Check takes, and most of whose texts mean something in a line.
func anyValue(s *sample.Source, lists int) api.Value {
	switch k := s.Below(8); {
	case k < 4:
		return str(strings.ToValidUTF8(anyPieces(s, 6), "?"))
	case k < 6 && lists > 0:
		v := lot()
		for range s.Below(4) {
			v.L = append(v.L, anyValue(s, lists-1))
		}
		return v
	case k == 6:
		return num(s.Below(1<<63-1)>>s.Below(63) - s.Below(1<<40))
	}
	return s.Value(lists)
}

// anyGraph is one that chapter 3's Check takes.
func anyGraph(s *sample.Source, most int) api.Graph {
	g := s.Graph(most)
	for _, n := range g.Nodes {
		changeSome(s, n.Props)
	}
	for _, x := range g.Edges {
		changeSome(s, x.Props)
	}
	if s.Below(3) == 0 {
		g.Next += s.Below(1<<40-g.Next+1) >> s.Below(40)
	}
	return g
}

func changeSome(s *sample.Source, l []api.Prop) {
	for i := range l {
		if v := anyValue(s, s.Below(4)); v.Kind != api.Null && s.Below(3) > 0 {
			l[i].Value = v
		}
	}
}

// Whatever is told is read back, and no two graphs have the same text.
func TestAnyGraphIsReadAsItWas(t *testing.T) {
	s := sample.New(181)
	was, again := map[string]string{}, 0
	for i := range 5000 {
		g := anyGraph(s, i%100)
		if e := graph.Check(g); e != api.OK {
			t.Fatalf("%s: %d", told(g), e)
		}
		text := printed(t, g)
		if got, at, e := Parse(text); told(got) != told(g) || at != 0 || e != api.OK {
			t.Fatalf("%.500s: %.500s, %d, %d", told(g), told(got), at, e)
		}
		if other, ok := was[text]; ok {
			again++
			if other != told(g) {
				t.Fatalf("%.500s, and %.500s: %.200q", other, told(g), text)
			}
		}
		was[text] = told(g)
	}
	if again < 20 {
		t.Errorf("only %d came again", again)
	}
}

// A line is what these say: a node's labels, and then all the rest of it; an edge's properties; a property and all behind it.
var (
	nextLine = regexp.MustCompile(`^next (-?[0-9]+)$`)
	nodeLine = regexp.MustCompile(`^node (-?[0-9]+)((?: :[^ ]*)*)((?s: .*)?)$`)
	edgeLine = regexp.MustCompile(`^edge (-?[0-9]+) (-?[0-9]+) (-?[0-9]+) :([^ ]*)((?s: .*)?)$`)
	someProp = regexp.MustCompile(`^ ([^ =]*)=((?s:[^ ']|'(?:[^'\\]|\\.)*')*)((?s: .*)?)$`)
)

// byRules reads a text as the chapter says it, by other means than Parse; bad: the number of the first line that can't be so, or -1.
func byRules(text string) (g api.Graph, bad int) {
	lines := strings.Split(text, "\n")
	last := len(lines) - 1
	for i, line := range lines {
		if i == last && (line != "" || i == 0) || i != last && !byRule(&g, line, i == 0) {
			return api.Graph{}, i
		}
	}
	return g, -1
}

func byRule(g *api.Graph, line string, first bool) bool {
	if first {
		m := nextLine.FindStringSubmatch(line)
		return m != nil && intOf(m[1], &g.Next)
	}
	if m := nodeLine.FindStringSubmatch(line); m != nil && g.Edges == nil {
		var n api.Node
		if m[2] != "" {
			n.Labels = strings.Split(m[2], " :")[1:]
		}
		right := intOf(m[1], &n.ID) && propsOf(m[3], &n.Props)
		g.Nodes = append(g.Nodes, n)
		return right
	}
	if m := edgeLine.FindStringSubmatch(line); m != nil {
		x := api.Edge{Type: m[4]}
		right := intOf(m[1], &x.ID) && intOf(m[2], &x.From) && intOf(m[3], &x.To) && propsOf(m[5], &x.Props)
		g.Edges = append(g.Edges, x)
		return right
	}
	return false
}

func intOf(s string, n *int) bool {
	v, err := strconv.ParseInt(s, 10, 64)
	*n = int(v)
	return err == nil && strconv.Itoa(*n) == s
}

func propsOf(s string, l *[]api.Prop) bool {
	for s != "" {
		m := someProp.FindStringSubmatch(s)
		if m == nil {
			return false
		}
		v, _, e := value.Parse(m[2])
		if e != api.OK {
			return false
		}
		*l = append(*l, prop(m[1], v))
		s = m[3]
	}
	return true
}

// spoilt is text with a few of its pieces or lines changed, gone, or elsewhere.
func spoilt(s *sample.Source, text string) string {
	if s.Below(4) == 0 {
		lines := strings.SplitAfter(text, "\n")
		i, k := s.Below(len(lines)), s.Below(len(lines))
		switch s.Below(3) {
		case 0:
			lines[i], lines[k] = lines[k], lines[i]
		case 1:
			lines = slices.Insert(lines, i, lines[k])
		default:
			lines = slices.Delete(lines, i, i+1)
		}
		text = strings.Join(lines, "")
	}
	for range s.Below(3) {
		at := s.Below(len(text) + 1)
		behind := min(len(text), at+s.Below(3))
		text = text[:at] + anyPieces(s, 2) + text[behind:]
	}
	return text
}

// What a text is read as is what the chapter says of its lines, whatever stands there.
func TestSpoiltTexts(t *testing.T) {
	s := sample.New(182)
	count := map[api.Errno]int{}
	places := map[int]int{}
	for i := range 100000 {
		was := printed(t, anyGraph(s, i%12))
		text := spoilt(s, was)
		want, bad := byRules(text)
		wantErr := graph.Check(want)
		if bad >= 0 {
			wantErr = api.ErrText
			places[bad]++
		}
		if wantErr != api.OK {
			want = api.Graph{}
		}
		g, at, e := Parse(text)
		if told(g) != told(want) || at != max(bad, 0) || e != wantErr {
			t.Fatalf("%q: %s, %d, %d, want %s, %d, %d", text, told(g), at, e, told(want), bad, wantErr)
		}
		if text != was {
			count[e]++
		}
		// There is one way to write a graph: what is read is written as it was.
		if again, f := Print(g); e == api.OK && (again != text || f != api.OK) {
			t.Fatalf("%q: %q, %d", text, again, f)
		}
	}
	for e, least := range map[api.Errno]int{api.OK: 3000, api.ErrText: 20000, api.ErrForm: 2000, api.ErrWho: 200, api.ErrRange: 30} {
		if count[e] < least {
			t.Errorf("only %d of error %d", count[e], e)
		}
	}
	for at := range 8 {
		if places[at] < 200 {
			t.Errorf("only %d are wrong at line %d", places[at], at)
		}
	}
}

// Lines that are made of anything.
func TestAnyLines(t *testing.T) {
	s := sample.New(183)
	heads := []string{"node 1", "node 1", "node 1 :a", "node 1 p=", "node 1 p='", "node 1 p=[", "edge 1 1 1 :T", "edge 1 1 1 :T p='", "edge 1", "n"}
	count := map[api.Errno]int{}
	for range 100000 {
		text := "next 2\nnode 0\n" + heads[s.Below(len(heads))] + anyPieces(s, 6) + []string{"", "'", "=1", "]", "']"}[s.Below(5)] + "\n"
		want, bad := byRules(text)
		wantErr := graph.Check(want)
		if bad >= 0 {
			wantErr = api.ErrText
		}
		g, at, e := Parse(text)
		if told(g) != told(api.Graph{}) || at != max(bad, 0) || e != wantErr {
			t.Fatalf("%q: %s, %d, %d, want %d, %d", text, told(g), at, e, bad, wantErr)
		}
		count[e]++
	}
	if count[api.ErrText] < 20000 || count[api.ErrForm] < 10000 {
		t.Errorf("%v", count)
	}
}

// Lists that have nothing in them are the same, whether they are nil or not.
func TestEmptyListsAreTheSame(t *testing.T) {
	g := api.Graph{Nodes: []api.Node{{ID: 1, Labels: []string{}, Props: []api.Prop{}}}, Edges: []api.Edge{}, Next: 2}
	if a, b := printed(t, g), printed(t, api.Graph{Nodes: nodes(1), Next: 2}); a != b {
		t.Errorf("%q, %q", a, b)
	}
	if a, b := printed(t, one(prop("p", api.Value{Kind: api.List, L: []api.Value{}}))), printed(t, one(prop("p", lot()))); a != b {
		t.Errorf("%q, %q", a, b)
	}
}
