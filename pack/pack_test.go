package pack

import (
	"strings"
	"testing"

	"espalier/api"
)

func TestGraphsAreReadAsTheyWere(t *testing.T) {
	was := map[string]string{}
	for what, g := range graphs() {
		b := graphBytes(t, what, g)
		if got, e := OfGraph(b); toldGraph(got) != toldGraph(g) || e != api.OK {
			t.Errorf("%s: %.200s, %d", what, toldGraph(got), e)
		}
		if other, ok := was[b]; ok {
			t.Errorf("%s and %s: %.80q", what, other, b)
		}
		was[b] = what
	}
}

func TestOperationsAreReadAsTheyWere(t *testing.T) {
	was := map[string]string{}
	for what, l := range manyOps() {
		b := opsBytes(t, what, l)
		if got, e := OfOps(b); toldOps(got) != toldOps(l) || e != api.OK {
			t.Errorf("%s: %.200s, %d", what, toldOps(got), e)
		}
		if other, ok := was[b]; ok {
			t.Errorf("%s and %s: %.80q", what, other, b)
		}
		was[b] = what
	}
}

// What chapter 3 says of a graph is said here, too.
func TestGraphRefuses(t *testing.T) {
	node := func(n api.Node) api.Graph { return api.Graph{Nodes: []api.Node{n}, Next: 9} }
	edge := func(x api.Edge) api.Graph { return api.Graph{Nodes: nodes(2), Edges: []api.Edge{x}, Next: 9} }
	for what, c := range map[string]struct {
		g    api.Graph
		want api.Errno
	}{
		"too many nodes":     {api.Graph{Nodes: nodes(api.MaxNodes + 1), Next: 99}, api.ErrMany},
		"too many edges":     {api.Graph{Nodes: nodes(1), Edges: loops(api.MaxEdges+1, 1), Next: 99}, api.ErrMany},
		"no number":          {node(api.Node{}), api.ErrForm},
		"a number below 0":   {node(api.Node{ID: -1}), api.ErrForm},
		"too many labels":    {node(api.Node{ID: 1, Labels: names(api.MaxLabels + 1)}), api.ErrMany},
		"labels fall":        {node(api.Node{ID: 1, Labels: []string{"b", "a"}}), api.ErrForm},
		"too many props":     {node(api.Node{ID: 1, Props: numbered(api.MaxProps + 1)}), api.ErrMany},
		"null":               {node(api.Node{ID: 1, Props: props(prop("p", null))}), api.ErrForm},
		"too long":           {node(api.Node{ID: 1, Props: props(prop("p", longText()))}), api.ErrMany},
		"no text":            {node(api.Node{ID: 1, Props: props(prop("p", wrongText()))}), api.ErrForm},
		"too deep":           {node(api.Node{ID: 1, Props: props(prop("p", nest(lot(), api.MaxDeep)))}), api.ErrMany},
		"a node's number":    {edge(api.Edge{ID: 2, From: 1, To: 2, Type: "T"}), api.ErrForm},
		"no type":            {edge(api.Edge{ID: 3, From: 1, To: 2}), api.ErrForm},
		"from nowhere":       {edge(api.Edge{ID: 3, From: 3, To: 2, Type: "T"}), api.ErrWho},
		"to nowhere":         {edge(api.Edge{ID: 3, From: 1, Type: "T"}), api.ErrWho},
		"an edge's null":     {edge(api.Edge{ID: 3, From: 1, To: 2, Type: "T", Props: props(prop("p", null))}), api.ErrForm},
		"no next":            {api.Graph{}, api.ErrRange},
		"next is a node's":   {api.Graph{Nodes: nodes(2), Next: 2}, api.ErrRange},
		"next is too great":  {api.Graph{Next: 1<<40 + 1}, api.ErrRange},
		"next, but no label": {api.Graph{Nodes: []api.Node{{ID: 1, Labels: []string{""}}}}, api.ErrForm},
	} {
		if b, e := Graph(c.g); b != "" || e != c.want {
			t.Errorf("%s: %.80q, %d, want %d", what, b, e, c.want)
		}
	}
}

func TestOpsRefuses(t *testing.T) {
	long := letters(api.MaxName + 1)
	deep := nest(null, api.MaxDeep+1)
	for what, o := range map[string]api.Op{
		"too long a name":            {Name: long},
		"too long a label":           {Labels: []string{"a", "b", "c", long}},
		"too many labels":            {Labels: make([]string, api.MaxLabels+1)},
		"too many properties":        {Props: make([]api.Prop, api.MaxProps+1)},
		"too long a property's name": {Props: props(prop("p", num(1)), prop(long, num(1)))},
		"too long a text":            {Value: longText()},
		"no text":                    {Value: wrongText()},
		"no kind":                    {Value: api.Value{Kind: 5}},
		"a kind below 0":             {Value: api.Value{Kind: -1}},
		"a kind of two bytes":        {Value: api.Value{Kind: 256}},
		"a null with more in it":     {Value: api.Value{N: 1}},
		"no bool":                    {Value: api.Value{Kind: api.Bool, N: 2}},
		"an int with a text":         {Value: api.Value{Kind: api.Int, S: "1"}},
		"too deep":                   {Value: deep},
		"too long a list":            {Value: lot(make([]api.Value, api.MaxList+1)...)},
		"a property's text":          {Props: props(prop("p", num(1)), prop("q", longText()))},
		"a property's wrong text":    {Props: props(prop("p", wrongText()), prop("q", num(1)))},
		"a property's depth":         {Props: props(prop("p", deep))},
	} {
		for where, l := range map[string][]api.Op{"alone": {o}, "behind": {{}, {Kind: api.AddNode}, o}, "ahead": {o, {}}} {
			if b, e := Ops(l); b != "" || e != api.ErrForm {
				t.Errorf("%s, %s: %.80q, %d", what, where, b, e)
			}
		}
	}
	many := make([]api.Op, api.MaxOps+1)
	if b, e := Ops(many); b != "" || e != api.ErrMany {
		t.Errorf("too many: %.80q, %d", b, e)
	}
	many[0].Name = long
	if b, e := Ops(many); b != "" || e != api.ErrMany {
		t.Errorf("too many, and too long a name: %.80q, %d", b, e)
	}
}

// tornGraph tells of bytes that are read, and shouldn't be.
func tornGraph(t *testing.T, what, b string) {
	t.Helper()
	if g, e := OfGraph(b); toldGraph(g) != toldGraph(api.Graph{}) || e != api.ErrTorn {
		t.Errorf("%s: %.80q: %.200s, %d", what, b, toldGraph(g), e)
	}
}

func tornOps(t *testing.T, what, b string) {
	t.Helper()
	if l, e := OfOps(b); l != nil || e != api.ErrTorn {
		t.Errorf("%s: %.80q: %.200s, %d", what, b, toldOps(l), e)
	}
}

func TestCutBytesAreTorn(t *testing.T) {
	for what, g := range graphs() {
		b := graphBytes(t, what, g)
		for k := 0; k < len(b); k += 1 + len(b)/500 {
			tornGraph(t, what, b[:k])
		}
		for _, more := range []string{"\x00", "x", "\x80", b} {
			tornGraph(t, what, b+more)
		}
	}
	for what, l := range manyOps() {
		b := opsBytes(t, what, l)
		for k := 0; k < len(b); k += 1 + len(b)/500 {
			tornOps(t, what, b[:k])
		}
		for _, more := range []string{"\x00", "x", "\x80", b} {
			tornOps(t, what, b+more)
		}
	}
}

// packed are the bytes that a writer lays, of what no call would take, too.
func packed(lay func(w *writer)) string {
	w := &writer{}
	lay(w)
	return string(w.out)
}

func TestGraphsThatAreNoneAreTorn(t *testing.T) {
	value := func(v api.Value) api.Graph {
		return api.Graph{Nodes: []api.Node{{ID: 1, Props: props(prop("p", v))}}, Next: 2}
	}
	for what, g := range map[string]api.Graph{
		"no next":           {},
		"next is a node's":  {Nodes: nodes(2), Next: 2},
		"next is too great": {Next: 1<<40 + 1},
		"too many nodes":    {Nodes: nodes(api.MaxNodes + 1), Next: 99},
		"too many edges":    {Nodes: nodes(1), Edges: loops(api.MaxEdges+1, 1), Next: 99},
		"nodes twice":       {Nodes: []api.Node{{ID: 1}, {ID: 1}}, Next: 2},
		"too many labels":   {Nodes: []api.Node{{ID: 1, Labels: names(api.MaxLabels + 1)}}, Next: 2},
		"too many props":    {Nodes: []api.Node{{ID: 1, Props: numbered(api.MaxProps + 1)}}, Next: 2},
		"no label":          {Nodes: []api.Node{{ID: 1, Labels: []string{""}}}, Next: 2},
		"no end":            {Nodes: nodes(1), Edges: []api.Edge{{ID: 2, From: 1, To: 3, Type: "T"}}, Next: 4},
		"no type":           {Nodes: nodes(1), Edges: []api.Edge{{ID: 2, From: 1, To: 1}}, Next: 4},
		"null":              value(null),
		"no bool":           value(api.Value{Kind: api.Bool, N: 2}),
		"no kind":           value(api.Value{Kind: 5}),
		"no text":           value(wrongText()),
		"too long a text":   value(longText()),
		"too long a list":   value(lot(make([]api.Value, api.MaxList+1)...)),
		"too deep":          value(nest(null, api.MaxDeep+1)),
		"much too deep":     value(nest(null, 100000)),
	} {
		tornGraph(t, what, packed(func(w *writer) { w.graph(g) }))
	}
}

func TestOperationsThatAreNoneAreTorn(t *testing.T) {
	long := letters(api.MaxName + 1)
	for what, l := range map[string][]api.Op{
		"too many":            make([]api.Op, api.MaxOps+1),
		"too long a name":     {{Name: long}},
		"too long a label":    {{Labels: []string{long}}},
		"too many labels":     {{Labels: make([]string, api.MaxLabels+1)}},
		"too many properties": {{Props: make([]api.Prop, api.MaxProps+1)}},
		"a property's name":   {{Props: props(prop(long, num(1)))}},
		"no text":             {{Value: wrongText()}},
		"no kind":             {{Props: props(prop("p", api.Value{Kind: 255}))}},
		"too deep":            {{Value: nest(lot(), api.MaxDeep)}},
		"much too deep":       {{Value: nest(lot(), 100000)}},
	} {
		tornOps(t, what, packed(func(w *writer) { each(w, l, w.op) }))
	}
}

// So deep that there would be no room for a call within a call for each list.
func TestDeepestBytesAreTorn(t *testing.T) {
	deep := strings.Repeat("\x04\x01", 10<<20)
	tornOps(t, "deep", "\x01\x00\x00\x00\x00\x00"+deep)
	tornGraph(t, "deep", "\x04\x01\x02\x00\x01\x01p"+deep)
}

// There is one way to write a number: the others are longer, or go on behind the highest bit.
func TestNumbersWrittenOtherwiseAreTorn(t *testing.T) {
	empty := "\x00\x00\x00\x00\x00\x00\x00" // behind the kind of an operation
	for _, one := range []string{"\x00", "\x7f", "\x80\x01", "\xff\xff\xff\xff\xff\xff\xff\xff\xff\x01"} {
		if l, e := OfOps("\x01" + one + empty); len(l) != 1 || e != api.OK {
			t.Errorf("%q: %v, %d", one, l, e)
		}
	}
	for _, one := range []string{
		"\x80\x00", "\x81\x00", "\x80\x80\x00", "\xff\x80\x00", "\x80\x80\x80\x80\x80\x80\x80\x80\x80\x00",
		"\xff\xff\xff\xff\xff\xff\xff\xff\xff\x02", "\xff\xff\xff\xff\xff\xff\xff\xff\xff\x03", "\xff\xff\xff\xff\xff\xff\xff\xff\xff\x7f",
		"\xff\xff\xff\xff\xff\xff\xff\xff\xff\x81\x00", "\xff\xff\xff\xff\xff\xff\xff\xff\xff\xff\x01", "\x80\x80\x80\x80\x80\x80\x80\x80\x80\x80\x00",
	} {
		tornOps(t, "a kind", "\x01"+one+empty)
		tornGraph(t, "a next", one+"\x00\x00")
	}
	for _, count := range []string{"\x80\x00", "\x81\x00", "\xff\xff\xff\xff\xff\xff\xff\xff\xff\x01", "\x80\x80\x80\x80\x80\x80\x80\x80\x80\x01", "\xff\xff\xff\xff\x0f"} {
		tornOps(t, "how many", count+"\x00"+empty)
		tornOps(t, "how long", "\x01\x00\x00\x00\x00"+count+"\x00\x00\x00")
		tornGraph(t, "how many", "\x02"+count+"\x00")
		tornGraph(t, "how many edges", "\x02\x00"+count)
	}
}

// A panic that isn't a reader's giving up is no torn text: it goes on.
func TestOtherPanicsGoOn(t *testing.T) {
	if n, whole := begin(func() int { panic(torn{}) }); n != 0 || whole {
		t.Errorf("giving up: %d, %t", n, whole)
	}
	if n, whole := begin(func() int { return 3 }); n != 3 || !whole {
		t.Errorf("reading: %d, %t", n, whole)
	}
	defer func() {
		if p := recover(); p != "another" {
			t.Errorf("told as %v", p)
		}
	}()
	begin(func() int { panic("another") })
}
