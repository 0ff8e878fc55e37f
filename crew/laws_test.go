package crew

import (
	"testing"

	"espalier/api"
	"espalier/ask"
	"espalier/graph"
	"espalier/query"
	"espalier/sample"
)

// texts are some questions, wrong ones among them.
func texts(s *sample.Source, most int) []string {
	var l []string
	for range s.Below(most + 1) {
		text := s.Question()
		if s.Below(3) == 0 {
			text, _ = query.Print(s.Loose())
		}
		l = append(l, text)
	}
	return l
}

// spoilt is a graph of which one thing is wrong.
func spoilt(s *sample.Source, g api.Graph) api.Graph {
	switch s.Below(3) {
	case 0:
		g.Next = 0
	case 1:
		g.Nodes = append(g.Nodes, api.Node{ID: -1})
	default:
		g.Edges = append(g.Edges, api.Edge{ID: g.Next, From: g.Next, To: g.Next, Type: "T0"})
		g.Next++
	}
	return g
}

// told is the answer to one text, asked alone.
func told(text string, g api.Graph) (api.Bag, api.Errno) {
	if e := graph.Check(g); e != api.OK {
		return nil, e
	}
	b, _, e := ask.Text(text, g)
	return b, e
}

func TestAskIsWhatAskingOneByOneTells(t *testing.T) {
	s := sample.New(201)
	seen := map[string]int{}
	for i := range 600 {
		l, g := texts(s, 12), s.Graph(5+i%90)
		if i%60 == 0 {
			l = texts(s, api.MaxScript)
		}
		if i%10 == 1 {
			g = spoilt(s, g)
			seen["wrong graphs"]++
		}
		bags, errs := Ask(l, g)
		if len(bags) != len(l) || len(errs) != len(l) {
			t.Fatalf("%q of %v: %d bags, %d errors", l, g, len(bags), len(errs))
		}
		for k, text := range l {
			b, e := told(text, g)
			if errs[k] != e || wrote(bags[k]) != wrote(b) {
				t.Fatalf("%q of %v: %s, %d, want %s, %d", text, g, wrote(bags[k]), errs[k], wrote(b), e)
			}
			note(seen, e, b)
		}
	}
	for _, what := range []string{"wrong graphs", "rows", "no rows", "full", "wrong"} {
		if seen[what] < 50 {
			t.Errorf("%s: only %d", what, seen[what])
		}
	}
}

// note counts what came about.
func note(seen map[string]int, e api.Errno, b api.Bag) {
	switch {
	case e == api.ErrFull:
		seen["full"]++
	case e != api.OK:
		seen["wrong"]++
	case len(b) > 0:
		seen["rows"]++
	default:
		seen["no rows"]++
	}
}

// It's the same again, however they run.
func TestAskTellsTheSameAgain(t *testing.T) {
	s := sample.New(202)
	for range 30 {
		l, g := texts(s, api.MaxScript), s.Graph(60)
		first, errs := Ask(l, g)
		for range 10 {
			bags, e := Ask(l, g)
			for k := range l {
				if errs[k] != e[k] || wrote(first[k]) != wrote(bags[k]) {
					t.Fatalf("%q of %v: %s, %d, then %s, %d", l[k], g, wrote(first[k]), errs[k], wrote(bags[k]), e[k])
				}
			}
		}
	}
}
