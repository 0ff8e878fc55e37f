package pack

import (
	"strings"
	"testing"

	"espalier/api"
	"espalier/graph"
	"espalier/sample"
)

// anyInt is of any size, either sign.
func anyInt(s *sample.Source) int {
	n := s.Below(1<<63-1) >> s.Below(63)
	if s.Below(2) == 0 {
		return -1 - n
	}
	return n
}

// anyBytes are at most so many, of all kinds.
func anyBytes(s *sample.Source, most int) string {
	var out []byte
	for range s.Below(most + 1) {
		out = append(out, byte(s.Below(256)))
	}
	return string(out)
}

// anyValue is one that chapter 1's Check takes: numbers of any size, texts of any length.
func anyValue(s *sample.Source, lists int) api.Value {
	switch k := s.Below(6); {
	case k < 2:
		return num(anyInt(s))
	case k == 2:
		return str(strings.Repeat([]string{"a", "€", "\x00", "\x01"}[s.Below(4)], s.Below(1300)>>s.Below(9)))
	case k == 3 && lists > 0:
		v := lot()
		for range s.Below(40) >> s.Below(6) % (api.MaxList + 1) {
			v.L = append(v.L, anyValue(s, lists-1))
		}
		return v
	}
	return s.Value(lists)
}

// anyGraph is one that chapter 3's Check takes, with values of any kind.
func anyGraph(s *sample.Source, most int) api.Graph {
	g := s.Graph(most)
	for _, n := range g.Nodes {
		changeSome(s, n.Props)
	}
	for _, x := range g.Edges {
		changeSome(s, x.Props)
	}
	if s.Below(3) == 0 {
		g.Next += s.Below(1<<40-g.Next+1) >> s.Below(40)
	}
	return g
}

func changeSome(s *sample.Source, l []api.Prop) {
	for i := range l {
		if v := anyValue(s, s.Below(api.MaxDeep+1)); v.Kind != api.Null && s.Below(3) == 0 {
			l[i].Value = v
		}
	}
}

// anyOp is one that Ops takes; it needn't be one that can be done.
func anyOp(s *sample.Source) api.Op {
	o := api.Op{Kind: s.Below(9), ID: anyInt(s), From: s.Below(5) - 2, To: s.Below(5) - 2, Name: anyBytes(s, api.MaxName)}
	if s.Below(5) == 0 {
		o.Kind, o.From, o.To = anyInt(s), anyInt(s), anyInt(s)
	}
	o.Value = anyValue(s, s.Below(api.MaxDeep+1))
	for range s.Below(api.MaxLabels + 1) {
		o.Labels = append(o.Labels, anyBytes(s, s.Below(api.MaxName+1)))
	}
	for range s.Below(api.MaxProps + 1) {
		o.Props = append(o.Props, prop(anyBytes(s, 2), anyValue(s, 2)))
	}
	return o
}

func anyOps(s *sample.Source, most int) []api.Op {
	var l []api.Op
	for range s.Below(most + 1) {
		l = append(l, anyOp(s))
	}
	return l
}

// Whatever is told is read back, and no two graphs have the same bytes.
func TestAnyGraphIsReadAsItWas(t *testing.T) {
	s := sample.New(141)
	was, again, long := map[string]string{}, 0, 0
	for i := range 3000 {
		g := anyGraph(s, i%120)
		if e := graph.Check(g); e != api.OK {
			t.Fatalf("%s: %d", toldGraph(g), e)
		}
		b := graphBytes(t, "any", g)
		if got, e := OfGraph(b); toldGraph(got) != toldGraph(g) || e != api.OK {
			t.Fatalf("%.500s: %.500s, %d", toldGraph(g), toldGraph(got), e)
		}
		if other, ok := was[b]; ok {
			again++
			if other != toldGraph(g) {
				t.Fatalf("%.500s, and %.500s: %.200q", other, toldGraph(g), b)
			}
		}
		was[b] = toldGraph(g)
		if len(b) > api.MaxDisk {
			long++
		}
	}
	if again < 50 || long < 50 {
		t.Errorf("%d came again, %d are long", again, long)
	}
}

func TestAnyOperationsAreReadAsTheyWere(t *testing.T) {
	s := sample.New(142)
	was, again, long := map[string]string{}, 0, 0
	for i := range 3000 {
		l := anyOps(s, i%(api.MaxOps+1))
		if i%3 == 0 {
			l = s.Ops(s.Graph(20), i%4)
		}
		b := opsBytes(t, "any", l)
		if got, e := OfOps(b); toldOps(got) != toldOps(l) || e != api.OK {
			t.Fatalf("%.500s: %.500s, %d", toldOps(l), toldOps(got), e)
		}
		if other, ok := was[b]; ok {
			again++
			if other != toldOps(l) {
				t.Fatalf("%.500s, and %.500s: %.200q", other, toldOps(l), b)
			}
		}
		was[b] = toldOps(l)
		if len(b) > api.MaxDisk {
			long++
		}
	}
	if again < 100 || long < 10 {
		t.Errorf("%d came again, %d are long", again, long)
	}
}

// spoilt is b with a few of its bytes changed, gone, or twice there.
func spoilt(s *sample.Source, b string) string {
	for range 1 + s.Below(2) {
		at, from := s.Below(len(b)+1), s.Below(len(b)+1)
		put, gone := string([]byte{byte(s.Below(256) >> s.Below(8))}), 1
		switch s.Below(6) {
		case 0:
			put, gone = b[from:min(len(b), from+s.Below(12))], s.Below(3)
		case 1:
			put, gone = anyBytes(s, 2), s.Below(3)
		}
		b = b[:at] + put + b[min(len(b), at+gone):]
	}
	return b
}

// Whatever is read has just the bytes that it was read from.
func TestReadGraphsHaveTheirBytes(t *testing.T) {
	s := sample.New(143)
	read, torn := 0, 0
	for i := range 60000 {
		b := graphBytes(t, "any", s.Graph(i%12))
		bad := spoilt(s, b)
		g, e := OfGraph(bad)
		if e == api.ErrTorn {
			torn++
			if toldGraph(g) != toldGraph(api.Graph{}) {
				t.Fatalf("%q: %s", bad, toldGraph(g))
			}
			continue
		}
		if again, f := Graph(g); e != api.OK || f != api.OK || again != bad {
			t.Fatalf("%q, once %q: %d, %s: %d, %q", bad, b, e, toldGraph(g), f, again)
		}
		if bad != b {
			read++
		}
	}
	if read < 2000 || torn < 20000 {
		t.Errorf("%d are read, %d torn", read, torn)
	}
}

func TestReadOperationsHaveTheirBytes(t *testing.T) {
	s := sample.New(144)
	read, torn := 0, 0
	for i := range 60000 {
		b := opsBytes(t, "any", s.Ops(s.Graph(6), i%5))
		bad := spoilt(s, b)
		l, e := OfOps(bad)
		if e == api.ErrTorn {
			torn++
			if l != nil {
				t.Fatalf("%q: %s", bad, toldOps(l))
			}
			continue
		}
		if again, f := Ops(l); e != api.OK || f != api.OK || again != bad {
			t.Fatalf("%q, once %q: %d, %s: %d, %q", bad, b, e, toldOps(l), f, again)
		}
		if bad != b {
			read++
		}
	}
	if read < 5000 || torn < 10000 {
		t.Errorf("%d are read, %d torn", read, torn)
	}
}

// Lists that have nothing in them are the same, whether they are nil or not.
func TestEmptyListsAreTheSame(t *testing.T) {
	g := api.Graph{Nodes: []api.Node{{ID: 1, Labels: []string{}, Props: []api.Prop{}}}, Edges: []api.Edge{}, Next: 2}
	if a, b := graphBytes(t, "empty", g), graphBytes(t, "nil", api.Graph{Nodes: nodes(1), Next: 2}); a != b {
		t.Errorf("%q, %q", a, b)
	}
	l := []api.Op{{Labels: []string{}, Props: []api.Prop{}, Value: api.Value{L: []api.Value{}}}}
	if a, b := opsBytes(t, "empty", l), opsBytes(t, "nil", []api.Op{{}}); a != b {
		t.Errorf("%q, %q", a, b)
	}
	if a, b := opsBytes(t, "none", []api.Op{}), opsBytes(t, "nil", nil); a != b {
		t.Errorf("%q, %q", a, b)
	}
}
