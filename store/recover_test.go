package store

import (
	"strings"
	"testing"

	"espalier/api"
	"espalier/pack"
)

func TestNew(t *testing.T) {
	if s := New(); told(s) != told(api.Store{G: api.Graph{Next: 1}}) || Check(s) != api.OK {
		t.Errorf("%s", told(s))
	}
	recovered(t, "nothing", "", "", New(), 0)
}

func TestRecover(t *testing.T) {
	s := some(t)
	recovered(t, "all", s.Base, log(s), s, len(log(s)))
	recovered(t, "nothing laid down", "", framed(t, "\x00", markOps), api.Store{G: New().G, At: 1}, 12)
	down := lay(t, s)
	recovered(t, "laid down alone", down.Base, "", down, 0)
	recovered(t, "New, laid down", lay(t, New()).Base, "", New(), 0)
	recovered(t, "a base is no record", "", s.Base, New(), 0)
	recovered(t, "a base is no record behind a base", s.Base, s.Base, lay(t, watch(t, commit(t, New(), s0()...), question)), 0)
}

// s0 are the operations that some has laid down.
func s0() []api.Op {
	return []api.Op{{Kind: api.AddNode, Labels: []string{"Person"}, Props: props(prop("age", num(7)))}, addNode()}
}

func TestRecoverRefusesWhatIsTooLong(t *testing.T) {
	over := strings.Repeat("x", api.MaxDisk+1)
	base := lay(t, some(t)).Base
	for _, c := range [][2]string{{"", over}, {over, ""}, {over, over}, {"x", over}, {base, over}, {over, log(some(t))}, {base, strings.Repeat("\x00", 1<<20)}} {
		if s, lost, e := Recover(c[0], c[1]); told(s) != told(api.Store{}) || lost != 0 || e != api.ErrMany {
			t.Errorf("%d, %d bytes: %s, %d, %d", len(c[0]), len(c[1]), told(s), lost, e)
		}
	}
	recovered(t, "as many as may be", "", over[1:], New(), 0)
	torn(t, "as many as may be", over[1:])
}

func TestTornBases(t *testing.T) {
	base := some(t).Base
	torn(t, "a byte", "x")
	for i := range len(base) {
		if i > 0 {
			torn(t, "cut", base[:i])
		}
		for bit := range 8 {
			bad := []byte(base)
			bad[i] ^= 1 << bit
			torn(t, "a bit turned", string(bad))
		}
		torn(t, "a byte gone", base[:i]+base[i+1:])
		torn(t, "a byte twice", base[:i+1]+base[i:])
	}
	torn(t, "a nought more", base+"\x00")
	torn(t, "twice", base+base)
	torn(t, "with its log", base+log(some(t)))
	torn(t, "a byte ahead", "\x00"+base)
	torn(t, "a log", log(some(t)))
	torn(t, "a commit", framed(t, "\x00", markOps))
	torn(t, "a question", framed(t, question, markText))
}

// Frames whose sums are right may still not be what Lay makes of a store.
func TestFramesThatAreNoBases(t *testing.T) {
	number := func(n int) string { return valueBytes(t, num(n)) }
	text := valueBytes(t, str(question))
	graph, e := pack.Graph(some(t).G)
	if e != api.OK {
		t.Fatal(e)
	}
	good := framed(t, number(3), number(1), text, graph, markBase)
	recovered(t, "right", good, "", api.Store{G: some(t).G, At: 3, Text: []string{question}}, 0)
	six := strings.Repeat(text, api.MaxViews)
	if _, _, e := Recover(framed(t, number(3), number(api.MaxViews), six, graph, markBase), ""); e != api.OK {
		t.Errorf("as many questions as may be: %d", e)
	}
	for what, l := range map[string][]string{
		"a mark alone":              {markBase},
		"no mark":                   {number(3), number(1), text, graph},
		"another mark":              {number(3), number(1), text, graph, "lax"},
		"a record's mark":           {number(3), number(1), text, graph, markOps},
		"At alone":                  {number(3), markBase},
		"no graph":                  {number(3), number(1), text, markBase},
		"no questions":              {number(3), number(1), graph, markBase},
		"no number":                 {number(1), text, graph, markBase},
		"nothing but a graph":       {graph, markBase},
		"fewer questions":           {number(3), number(2), text, graph, markBase},
		"more questions":            {number(3), number(1), text, text, graph, markBase},
		"questions, but 0":          {number(3), number(0), text, graph, markBase},
		"questions below 0":         {number(3), number(-1), graph, markBase},
		"the least of all":          {number(3), number(-1 << 63), graph, markBase},
		"the most of all":           {number(3), number(1<<63 - 1), text, graph, markBase},
		"too many questions":        {number(3), number(api.MaxViews + 1), six, text, graph, markBase},
		"At is a Bool":              {valueBytes(t, api.Value{Kind: api.Bool, N: 1}), number(1), text, graph, markBase},
		"how many is a Bool":        {number(3), valueBytes(t, api.Value{Kind: api.Bool, N: 1}), text, graph, markBase},
		"At is a Text":              {valueBytes(t, str("")), number(1), text, graph, markBase},
		"a question is a number":    {number(3), number(1), number(1), graph, markBase},
		"a question that is wrong":  {number(3), number(1), valueBytes(t, str("match (a) return")), graph, markBase},
		"a question that is empty":  {number(3), number(1), valueBytes(t, str("")), graph, markBase},
		"a question that can't be":  {number(3), number(1), valueBytes(t, str("match (a) return b as n")), graph, markBase},
		"a byte behind":             {number(3), number(1), text, graph, "\x00", markBase},
		"a graph that is cut":       {number(3), number(1), text, graph[:len(graph)-1], markBase},
		"a graph that can't be":     {number(3), number(0), "\x00\x00\x00", markBase},
		"two graphs":                {number(3), number(1), text, graph, graph, markBase},
		"a value that isn't a word": {number(3), number(1), valueBytes(t, api.Value{}), graph, markBase},
	} {
		torn(t, what, framed(t, l...))
	}
	torn(t, "another frame behind", good+framed(t, "\x00", markOps))
	torn(t, "another frame ahead", framed(t, "\x00", markOps)+good)
}

// What stands behind a record that can't be taken isn't read, whatever it is.
func TestRecordsThatCannotBeTaken(t *testing.T) {
	ops := func(l ...api.Op) string {
		b, e := pack.Ops(l)
		if e != api.OK {
			t.Fatal(e)
		}
		return framed(t, b, markOps)
	}
	one, more := ops(addNode()), ops(addNode())+framed(t, question, markText)
	s := commit(t, New(), addNode())
	if log(s) != one {
		t.Fatalf("%q, want %q", log(s), one)
	}
	bent := []byte(one)
	bent[len(bent)-1] ^= 1
	for what, bad := range map[string]string{
		"a byte":                      "\x00",
		"noughts":                     strings.Repeat("\x00", 40),
		"cut":                         one[:len(one)-1],
		"the head of a frame":         one[:8],
		"a bit turned":                string(bent),
		"no mark":                     framed(t, "\x00"),
		"another mark":                framed(t, question, "asx"),
		"a mark alone":                framed(t, markOps),
		"a question's mark alone":     framed(t, markText),
		"a base":                      lay(t, s).Base,
		"no operations":               framed(t, question, markOps),
		"operations, a byte behind":   framed(t, "\x00\x00", markOps),
		"an operation of no kind":     ops(api.Op{}),
		"nobody goes":                 ops(api.Op{Kind: api.DropNode, ID: 2}),
		"the second one can't go":     ops(addNode(), api.Op{Kind: api.DropEdge, ID: 1}),
		"no question":                 framed(t, "match", markText),
		"a question that can't be":    framed(t, "match (a) return b as n", markText),
		"a question that is too long": framed(t, long(api.MaxText+1), markText),
	} {
		for _, behind := range []string{"", "x", one, more} {
			recovered(t, what, "", one+bad+behind, s, len(one))
			recovered(t, what+", on a base", lay(t, s).Base, bad+behind, s, 0)
		}
	}
}

func TestRecoverTakesNoMoreQuestionsThanMayBe(t *testing.T) {
	s := New()
	for range api.MaxViews {
		s = watch(t, s, question)
	}
	all := log(s)
	recovered(t, "six", "", all, s, len(all))
	recovered(t, "seven", "", all+framed(t, question, markText), s, len(all))
	recovered(t, "a commit behind seven", "", all+framed(t, question, markText)+framed(t, "\x00", markOps), s, len(all))
	recovered(t, "on a base", lay(t, s).Base, framed(t, question, markText), s, 0)
	recovered(t, "a commit behind six", "", all+framed(t, "\x00", markOps), commit(t, s), len(all)+12)
}

func TestCheck(t *testing.T) {
	s := some(t)
	for what, c := range map[string]struct {
		bend func(s *api.Store)
		want api.Errno
	}{
		"right":                      {func(s *api.Store) {}, api.OK},
		"zero":                       {func(s *api.Store) { *s = api.Store{} }, api.ErrRange},
		"empty lists":                {func(s *api.Store) { s.G.Nodes[1].Props = []api.Prop{} }, api.OK},
		"safe instead of waiting":    {func(s *api.Store) { s.Log = api.Disk{Safe: log(*s)} }, api.OK},
		"waiting instead of safe":    {func(s *api.Store) { s.Log = api.Disk{Wait: log(*s)} }, api.OK},
		"parted within a record":     {func(s *api.Store) { s.Log = api.Disk{Safe: log(*s)[:5], Wait: log(*s)[5:]} }, api.OK},
		"a wrong graph":              {func(s *api.Store) { s.G.Next = 2; s.Base = letters(api.MaxDisk + 1) }, api.ErrRange},
		"an edge to nobody":          {func(s *api.Store) { s.G.Edges[0].To = 9; s.Base = "x" }, api.ErrWho},
		"too many labels":            {func(s *api.Store) { s.G.Nodes[0].Labels = make([]string, 5) }, api.ErrMany},
		"a wrong text":               {func(s *api.Store) { s.G.Nodes[0].Props[0].Value = wrongText() }, api.ErrForm},
		"a base too long":            {func(s *api.Store) { s.Base = letters(api.MaxDisk + 1) }, api.ErrMany},
		"safe too long":              {func(s *api.Store) { s.Base, s.Log.Safe = "x", letters(api.MaxDisk+1) }, api.ErrMany},
		"waiting too long":           {func(s *api.Store) { s.Base, s.Log.Wait = "x", letters(api.MaxDisk+1) }, api.ErrMany},
		"together too long":          {func(s *api.Store) { s.Base, s.Log = "x", api.Disk{Safe: letters(1), Wait: letters(api.MaxDisk)} }, api.ErrMany},
		"together just not too long": {func(s *api.Store) { s.Log = api.Disk{Safe: letters(1), Wait: letters(api.MaxDisk - 1)} }, api.ErrForm},
		"a torn base":                {func(s *api.Store) { s.Base, s.At = s.Base[1:], 9 }, api.ErrTorn},
		"a base just not too long":   {func(s *api.Store) { s.Base = letters(api.MaxDisk) }, api.ErrTorn},
		"no base":                    {func(s *api.Store) { s.Base = "" }, api.ErrForm},
		"a byte more in the log":     {func(s *api.Store) { s.Log.Wait += "x" }, api.ErrForm},
		"a byte more that is safe":   {func(s *api.Store) { s.Log.Safe += "x" }, api.ErrForm},
		"a byte fewer":               {func(s *api.Store) { s.Log.Wait = s.Log.Wait[1:] }, api.ErrForm},
		"nothing waits":              {func(s *api.Store) { s.Log.Wait = "" }, api.ErrForm},
		"a commit more":              {func(s *api.Store) { s.At++ }, api.ErrForm},
		"a commit fewer":             {func(s *api.Store) { s.At-- }, api.ErrForm},
		"no questions":               {func(s *api.Store) { s.Text = nil }, api.ErrForm},
		"a question fewer":           {func(s *api.Store) { s.Text = s.Text[:2] }, api.ErrForm},
		"a question more":            {func(s *api.Store) { s.Text = append(s.Text, question) }, api.ErrForm},
		"another question":           {func(s *api.Store) { s.Text[1] += " " }, api.ErrForm},
		"questions turned round":     {func(s *api.Store) { s.Text[0], s.Text[1] = s.Text[1], s.Text[0] }, api.ErrForm},
		"another Next":               {func(s *api.Store) { s.G.Next++ }, api.ErrForm},
		"another label":              {func(s *api.Store) { s.G.Nodes[1].Labels = nil }, api.ErrForm},
		"another value":              {func(s *api.Store) { s.G.Nodes[0].Props[0].Value = num(8) }, api.ErrForm},
		"a node more":                {func(s *api.Store) { s.G.Nodes, s.G.Next = append(s.G.Nodes, api.Node{ID: 4}), 5 }, api.ErrForm},
		"no edge":                    {func(s *api.Store) { s.G.Edges = nil }, api.ErrForm},
		"an edge turned round":       {func(s *api.Store) { s.G.Edges[0].From, s.G.Edges[0].To = 2, 1 }, api.ErrForm},
	} {
		bad := some(t)
		c.bend(&bad)
		if e := Check(bad); e != c.want {
			t.Errorf("%s: %d, want %d", what, e, c.want)
		}
	}
	if e := Check(s); e != api.OK {
		t.Errorf("%d", e)
	}
}
