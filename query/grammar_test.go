package query

import (
	"maps"
	"regexp"
	"slices"
	"strconv"
	"strings"
	"testing"

	"espalier/api"
	"espalier/graph"
	"espalier/sample"
	"espalier/term"
)

// chapter is the grammar as the document has it; it is held against Parse by another reader, which tries all that it allows.
const chapter = `
    query = "match" dot { arrow dot } [ "where" either ] "return" [ "distinct" ] item { "," item }
    dot   = "(" [ name ] [ ":" word ] ")"
    arrow = "-" "[" inner "]" "->"  |  "<-" "[" inner "]" "-"        inner = [ name ] [ ":" word ] [ "*" ]
    item  = ( agg "(" either ")" | either ) "as" name                agg = "count" | "sum" | "min" | "max"
    either = both { "or" both }            both = turned { "and" turned }
    turned = "not" turned | against
    against = sum [ ( "=" | "<" | "<=" | "in" ) sum  |  "is" "null" ]
    sum   = product { ( "+" | "-" ) product }        product = plain { "*" plain }
    plain = "(" either ")" | "[" [ list ] "]" | "null" | "true" | "false" | number | text
          | ( "size" | "head" | "coalesce" | "id" | "type" ) "(" [ list ] ")" | name [ "." word ]
    list  = either { "," either }
`

// rule tells where it may end if it begins at a word.
type rule func(o *oracle, at int) []int

type oracle struct {
	rules map[string]rule
	words []string
	far   int // the farthest word that didn't fit
	known map[string][]int
}

// grammar makes rules of a text like chapter.
type grammar struct{ signs []string }

func rulesOf(text string) map[string]rule {
	g := &grammar{regexp.MustCompile(`"[^"]*"|\w+|\S`).FindAllString(text, -1)}
	rules := map[string]rule{}
	for len(g.signs) > 1 {
		name := g.signs[0]
		g.signs = g.signs[2:]
		rules[name] = g.either()
	}
	return rules
}

// either reads alternatives, up to a bracket that shuts or the next rule's name.
func (g *grammar) either() rule {
	l := []rule{g.row()}
	for len(g.signs) > 0 && g.signs[0] == "|" {
		g.signs = g.signs[1:]
		l = append(l, g.row())
	}
	return func(o *oracle, at int) []int {
		var ends []int
		for _, f := range l {
			ends = append(ends, f(o, at)...)
		}
		return sorted(ends)
	}
}

func sorted(l []int) []int {
	slices.Sort(l)
	return slices.Compact(l)
}

func (g *grammar) row() rule {
	var l []rule
	for len(g.signs) > 0 && !strings.Contains("|)]}", g.signs[0]) && !(len(g.signs) > 1 && g.signs[1] == "=") {
		l = append(l, g.part())
	}
	return func(o *oracle, at int) []int {
		ends := []int{at}
		for _, f := range l {
			ends = o.from(ends, f)
		}
		return ends
	}
}

// from is where a rule ends that begins at one of these.
func (o *oracle) from(starts []int, f rule) []int {
	var ends []int
	for _, at := range starts {
		ends = append(ends, f(o, at)...)
	}
	return sorted(ends)
}

func (g *grammar) part() rule {
	s := g.signs[0]
	g.signs = g.signs[1:]
	if s[0] == '"' {
		return func(o *oracle, at int) []int { return o.one(at, func(w string) bool { return `"`+w+`"` == s }) }
	}
	if !strings.Contains("([{", s) {
		return func(o *oracle, at int) []int { return o.named(s, at) }
	}
	inner := g.either()
	g.signs = g.signs[1:]
	switch s {
	case "[":
		return func(o *oracle, at int) []int { return sorted(append(inner(o, at), at)) }
	case "{":
		return func(o *oracle, at int) []int { return o.often(inner, at) }
	}
	return inner
}

func (o *oracle) often(f rule, at int) []int {
	all, ends := []int{at}, []int{at}
	for len(ends) > 0 {
		ends = o.from(ends, f)
		all = append(all, ends...)
	}
	return sorted(all)
}

// named is a rule of the chapter, or a kind of words.
func (o *oracle) named(name string, at int) []int {
	switch name {
	case "name":
		return o.one(at, term.Name)
	case "word":
		return o.one(at, graph.Name)
	case "text":
		return o.one(at, func(w string) bool { return w[0] == '\'' })
	case "number":
		return o.number(at)
	}
	key := name + strconv.Itoa(at)
	if _, met := o.known[key]; !met {
		o.known[key] = o.rules[name](o, at)
	}
	return slices.Clone(o.known[key])
}

func (o *oracle) one(at int, fits func(string) bool) []int {
	if at < len(o.words) && fits(o.words[at]) {
		return []int{at + 1}
	}
	o.far = max(o.far, at)
	return nil
}

var digits = regexp.MustCompile(`^(0|-?[1-9][0-9]*)$`)

func (o *oracle) number(at int) []int {
	if at >= len(o.words) || o.words[at] != "-" {
		return o.one(at, rightNumber)
	}
	if at+1 < len(o.words) && !rightNumber("-"+o.words[at+1]) {
		return o.one(at, func(string) bool { return false })
	}
	// Behind the `-`, words may be missing.
	return o.one(at+1, func(string) bool { return true })
}

func rightNumber(s string) bool {
	_, err := strconv.Atoi(s)
	return err == nil && digits.MatchString(s)
}

// judge tells which word doesn't fit, as the chapter's grammar has it; below 0: all do.
func judge(rules map[string]rule, words []string) int {
	o := &oracle{rules: rules, words: words, known: map[string][]int{}}
	ends := o.named("query", 0)
	if slices.Contains(ends, len(words)) {
		return -1
	}
	if len(ends) > 0 {
		o.far = max(o.far, slices.Max(ends))
	}
	return o.far
}

// write puts words together, with blanks where there must be some, and at other places now and then; and tells where each begins, and the end.
func write(s *sample.Source, words []string) (string, []int) {
	blank := func() string { return []string{"", "", "", " ", "\n", "\t", "  "}[s.Below(7)] }
	text, last, at := blank(), "", []int{}
	for _, w := range words {
		gap := blank()
		if gap == "" && joined(last, w) {
			gap = " "
		}
		text += gap
		at = append(at, len(text))
		text += w
		last = w
	}
	text += blank()
	return text, append(at, len(text))
}

// joined tells whether two words would be read as others, if nothing stood between them.
func joined(a, b string) bool {
	l, _ := split(a + b)
	return a != "" && (len(l) < 2 || l[0].text != a || l[1].text != b)
}

func TestWordsAreWrittenAsTheyAre(t *testing.T) {
	s := sample.New(61)
	for range 300 {
		words := spoilt(s, wordsOf(s.Query(4)))
		text, at := write(s, words)
		l, end := split(text)
		if end != len(text) || len(l) != len(words) {
			t.Fatalf("%q: %v, %q", text, l, words)
		}
		for i, w := range l {
			if w.text != words[i] || w.at != at[i] {
				t.Errorf("%q: %v, want %q at %d", text, w, words[i], at[i])
			}
		}
	}
}

// spoilt are words of which some are left out, put in, or others.
func spoilt(s *sample.Source, words []string) []string {
	some := strings.Fields("match where return distinct as and or not in is null true false count sum size coalesce id type a b n0 x1 ( ) [ ] - + * = < <= -> <- , . : 0 1 - 007 1x ''")
	for range s.Below(3) {
		i := s.Below(len(words))
		w := some[s.Below(len(some))]
		switch s.Below(4) {
		case 0:
			words = slices.Delete(words, i, i+1)
		case 1:
			words = slices.Insert(words, i, w)
		case 2:
			words[i] = w
		case 3:
			words = words[:i+1]
		}
		if len(words) == 0 {
			return []string{w}
		}
	}
	return words
}

func wordsOf(q api.Query) []string {
	text, _ := Print(q)
	l, _ := split(text)
	var words []string
	for _, w := range l {
		words = append(words, w.text)
	}
	if len(words) == 0 {
		return []string{"match"}
	}
	return words
}

// What doesn't fit is told as the chapter's grammar has it, whatever was left out, put in, or cut off.
func TestParseIsTheChaptersGrammar(t *testing.T) {
	rules := rulesOf(chapter)
	if len(rules) != 14 {
		t.Fatalf("%d rules: %q", len(rules), slices.Sorted(maps.Keys(rules)))
	}
	s := sample.New(62)
	right, wrong, dashes := 0, 0, 0
	for range 4000 {
		words := spoilt(s, wordsOf(s.Query(3)))
		text, at := write(s, words)
		_, got, e := Parse(text)
		want := judge(rules, words)
		switch {
		case want < 0:
			right++
			if e == api.ErrText || got != 0 {
				t.Errorf("%q: %d, %d, and it fits", text, got, e)
			}
		case e != api.ErrText || got != at[want]:
			t.Errorf("%q: %d, %d, want %d", text, got, e, at[want])
		default:
			wrong++
			if want < len(words) && words[want] == "-" {
				dashes++
			}
		}
	}
	if right < 500 || wrong < 500 || dashes < 20 {
		t.Errorf("%d fit, %d don't, %d of these at a -", right, wrong, dashes)
	}
}
