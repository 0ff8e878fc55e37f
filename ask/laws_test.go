package ask

import (
	"math/big"
	"slices"
	"strconv"
	"strings"
	"testing"

	"espalier/api"
	"espalier/bag"
	"espalier/match"
	"espalier/sample"
	"espalier/term"
	"espalier/value"
)

// rowOf is the row of a way, by chapter 5's Eval.
func rowOf(t *testing.T, q api.Query, g api.Graph, way []int) api.Row {
	t.Helper()
	var names []string
	var ids []int
	note := func(name string, id int) {
		if name != "" && !slices.Contains(names, name) {
			names, ids = append(names, name), append(ids, id)
		}
	}
	for i, d := range q.Dots {
		note(d.Name, way[i])
	}
	for i, x := range q.Arrows {
		note(x.Name, way[len(q.Dots)+i])
	}
	var r api.Row
	for _, x := range q.Items {
		v, e := term.Eval(g, names, ids, x.T)
		if e != api.OK {
			t.Fatal(e)
		}
		r = append(r, v)
	}
	return r
}

// byCounting is what Ask tells, found another way: rows and parts are told from each other by what is written of them, and a value is added to those of its part one by one.
func byCounting(t *testing.T, q api.Query, g api.Graph) (map[string]int, api.Errno) {
	t.Helper()
	ways, e := match.All(q, g)
	if e != api.OK {
		return nil, e
	}
	rows, parted := map[string]int{}, false
	parts := map[string][]api.Row{}
	alone := true
	for _, x := range q.Items {
		parted = parted || x.Agg != ""
		alone = alone && x.Agg != ""
	}
	if alone {
		parts[""] = nil
	}
	for _, way := range ways {
		r := rowOf(t, q, g, way)
		rows[key(r)]++
		var own []string
		for i, x := range q.Items {
			if x.Agg == "" {
				own = append(own, key(r[i:i+1]))
			}
		}
		k := strings.Join(own, " ")
		parts[k] = append(parts[k], r)
	}
	if parted {
		rows = map[string]int{}
		for _, part := range parts {
			rows[key(oneOf(q.Items, part))]++
		}
	}
	if q.Distinct {
		for k := range rows {
			rows[k] = 1
		}
	}
	return rows, api.OK
}

// oneOf is the row of a part.
func oneOf(items []api.Item, part []api.Row) api.Row {
	var out api.Row
	for i, x := range items {
		if x.Agg == "" {
			out = append(out, part[0][i])
			continue
		}
		many, whole := 0, new(big.Int)
		var low, high api.Value
		for _, r := range part {
			v := r[i]
			if v.Kind == api.Null {
				continue
			}
			many++
			if many == 1 || value.Order(v, low) < 0 {
				low = v
			}
			if many == 1 || value.Order(v, high) > 0 {
				high = v
			}
			if v.Kind == api.Int {
				whole.Add(whole, big.NewInt(int64(v.N)))
			}
		}
		total := api.Value{}
		if whole.IsInt64() {
			total = sample.Int(int(whole.Int64()))
		}
		out = append(out, map[string]api.Value{"count": sample.Int(many), "sum": total, "min": low, "max": high}[x.Agg])
	}
	return out
}

// loose is a question that stands in more ways than others do.
func loose(s *sample.Source) api.Query {
	q := s.Loose()
	if s.Below(2) > 0 {
		q.Where = nil
	}
	return q
}

// bare is a question that takes any labels and types, and asks for nothing beside.
func bare(q api.Query) api.Query {
	for i := range q.Dots {
		q.Dots[i].Label = ""
	}
	for i := range q.Arrows {
		q.Arrows[i].Type = ""
	}
	q.Where = nil
	return q
}

func note(met map[string]int, what string, holds bool) {
	if holds {
		met[what]++
	}
}

func TestAskIsWhatCountingTells(t *testing.T) {
	s := sample.New(102)
	met := map[string]int{}
	for i := range 6000 {
		g, q := s.Graph(5+i%60), loose(s)
		if i%3 == 0 {
			q = plain(q)
		}
		if i%10 == 0 {
			g, q = s.Graph(150), bare(q)
		}
		want, f := byCounting(t, q, g)
		got, e := Ask(q, g)
		if e != f || e == api.OK && bag.Check(got) != api.OK || len(got) != len(want) {
			t.Fatalf("%v of %v: %s, %d, want %v, %d", q, g, wrote(got), e, want, f)
		}
		for _, c := range got {
			if want[key(c.R)] != c.N {
				t.Fatalf("%v of %v: %s, want %v", q, g, wrote(got), want)
			}
		}
		many := slices.ContainsFunc(q.Items, ofMany)
		note(met, "full", e != api.OK)
		note(met, "rows", len(got) > 1 && !many)
		note(met, "rows, often", slices.ContainsFunc(got, func(c api.Count) bool { return c.N > 1 }))
		note(met, "parts", len(got) > 1 && many)
		note(met, "one part", len(got) == 1 && many)
		note(met, "no parts", len(got) == 0 && many && e == api.OK)
		note(met, "distinct", len(got) > 1 && q.Distinct)
	}
	for what, n := range met {
		if n < 20 {
			t.Errorf("%s: only %d", what, n)
		}
	}
	if len(met) != 7 {
		t.Errorf("%v", met)
	}
}

// Numbers as great as they can be, at times all on one side of 0.
func TestSumsAreWhole(t *testing.T) {
	s := sample.New(103)
	ends := []int{-1 << 63, -1<<63 + 1, -1 << 62, -1, 0, 1, 1 << 62, 1<<63 - 2, 1<<63 - 1}
	fits, not := 0, 0
	for i := range 4000 {
		g := api.Graph{Nodes: sample.Nodes(s.Below(1 + i%api.MaxNodes)), Next: 41}
		whole := new(big.Int)
		for k := range g.Nodes {
			n := ends[s.Below(len(ends))]
			whole.Add(whole, big.NewInt(int64(n)))
			g.Nodes[k].Props = sample.Props(sample.Prop("x", sample.Int(n)))
		}
		want := "1*[null]"
		if whole.IsInt64() {
			want = "1*[" + whole.String() + "]"
			fits++
		} else {
			not++
		}
		tells(t, "match (a) return sum(a.x) as n", g, want)
	}
	if fits < 1000 || not < 1000 {
		t.Errorf("%d, %d", fits, not)
	}
}

// counted is how many ways a pattern has, as count tells it; -1 if there are too many.
func counted(t *testing.T, q api.Query, g api.Graph) int {
	t.Helper()
	q.Items, q.Distinct = []api.Item{{Name: "n", Agg: "count", T: sample.Const(sample.Int(1))}}, false
	b, e := Ask(q, g)
	if e == api.ErrFull {
		return -1
	}
	if e != api.OK || len(b) != 1 || b[0].N != 1 || b[0].R[0].Kind != api.Int {
		t.Fatalf("%v: %s, %d", q, wrote(b), e)
	}
	return b[0].R[0].N
}

// plain is a question without what is made of many.
func plain(q api.Query) api.Query {
	q.Items = slices.Clone(q.Items)
	for i := range q.Items {
		q.Items[i].Agg = ""
	}
	return q
}

func TestCountOfAllWaysIsHowManyThereAre(t *testing.T) {
	s := sample.New(104)
	ways := 0
	for i := range 3000 {
		g, q := s.Graph(5+i%30), plain(loose(s))
		q.Distinct = false
		all, e := match.All(q, g)
		n := counted(t, q, g)
		if e == api.ErrFull && n == -1 {
			continue
		}
		rows, f := Ask(q, g)
		times := 0
		for _, c := range rows {
			times += c.N
		}
		if e != api.OK || f != api.OK || n != len(all) || times != n {
			t.Fatalf("%v of %v: %d, %d rows, want %d", q, g, n, times, len(all))
		}
		ways += n
	}
	if ways < 3000 {
		t.Errorf("only %d", ways)
	}
}

func TestDistinctHasNoRowMoreThanTheOthers(t *testing.T) {
	s := sample.New(105)
	fewer := 0
	for i := range 3000 {
		g, q := s.Graph(5+i%60), loose(s)
		if i%2 == 0 {
			q = plain(q)
		}
		q.Distinct = false
		all, e := Ask(q, g)
		q.Distinct = true
		each, f := Ask(q, g)
		if e != f || len(each) != len(all) {
			t.Fatalf("%v of %v: %s, %d, and %s, %d", q, g, wrote(all), e, wrote(each), f)
		}
		for k, c := range each {
			if c.N != 1 || key(c.R) != key(all[k].R) {
				t.Fatalf("%v of %v: %s, and %s", q, g, wrote(all), wrote(each))
			}
		}
		if slices.ContainsFunc(all, func(c api.Count) bool { return c.N > 1 }) {
			fewer++
		}
	}
	if fewer < 300 {
		t.Errorf("only %d", fewer)
	}
}

// less is a question that asks for less: a label, a type, or where is left out.
func less(s *sample.Source, q api.Query) api.Query {
	q.Dots, q.Arrows = slices.Clone(q.Dots), slices.Clone(q.Arrows)
	switch i := s.Below(len(q.Dots) + len(q.Arrows) + 1); {
	case i < len(q.Dots):
		q.Dots[i].Label = ""
	case i < len(q.Dots)+len(q.Arrows):
		q.Arrows[i-len(q.Dots)].Type = ""
	default:
		q.Where = nil
	}
	return q
}

func TestWhatAsksForLessHasAsManyWaysOrMore(t *testing.T) {
	s := sample.New(106)
	more := 0
	for i := range 3000 {
		g, q := s.Graph(5+i%30), s.Query(3)
		n, m := counted(t, q, g), counted(t, less(s, q), g)
		if m != -1 && (n == -1 || n > m) {
			t.Fatalf("%v of %v: %d, of less %d", q, g, n, m)
		}
		if n < m {
			more++
		}
	}
	if more < 100 {
		t.Errorf("only %d", more)
	}
}

// What the dots of a pattern have, those of a piece of it have, too: each row of the whole is one of the piece. (An edge more may make more ways of one.)
func TestAPieceOfAPatternHasWhatTheWholeHas(t *testing.T) {
	s := sample.New(107)
	held, more := 0, 0
	for i := range 3000 {
		g, q := s.Graph(5+i%30), loose(s)
		q.Where, q.Distinct = nil, true
		from := s.Below(len(q.Dots))
		to := from + s.Below(len(q.Dots)-from)
		q.Dots = slices.Clone(q.Dots)
		q.Items = nil
		for k := range q.Dots {
			q.Dots[k].Name = "d" + strconv.Itoa(k)
			if from <= k && k <= to {
				q.Items = append(q.Items, api.Item{Name: "n" + strconv.Itoa(k), T: sample.Var(q.Dots[k].Name)})
			}
		}
		piece := q
		piece.Dots, piece.Arrows = q.Dots[from:to+1], q.Arrows[from:to]
		whole, e := Ask(q, g)
		part, f := Ask(piece, g)
		if e != api.OK || f != api.OK {
			continue
		}
		left, _ := bag.Add(part, whole, -1)
		for _, c := range left {
			if c.N != 1 {
				t.Fatalf("%v of %v: %s, and of a piece %s", q, g, wrote(whole), wrote(part))
			}
		}
		held += len(whole)
		more += len(left)
	}
	if held < 1000 || more < 1000 {
		t.Errorf("%d, %d more", held, more)
	}
}
