package query

import (
	"slices"
	"strings"
	"testing"

	"espalier/api"
	"espalier/sample"
	"espalier/value"
)

func TestPrintedIsReadAsItWas(t *testing.T) {
	s := sample.New(63)
	short := 0
	for range 5000 {
		q := s.Query(api.MaxDeep)
		text, e := Print(q)
		if e == api.ErrMany {
			short++
			continue
		}
		if e != api.OK {
			t.Fatalf("%v: %d", q, e)
		}
		reads(t, text, q)
	}
	if short > 500 {
		t.Errorf("%d are too long", short)
	}
}

// level is how tightly a term's sign binds; what is 6 needs no brackets anywhere.
func level(x api.Term) int {
	if x.Kind != api.Call {
		return 6
	}
	for i, l := range []string{"or", "and", "not", "= < <= in null", "+ -", "*"} {
		if slices.Contains(strings.Fields(l), x.Name) {
			return i
		}
	}
	return 6
}

// loose are the words of a term with no more brackets than there must be, where something of that level may stand.
func loose(x api.Term, least int) []string {
	l := level(x)
	if l < least {
		return slices.Concat([]string{"("}, loose(x, 0), []string{")"})
	}
	switch {
	case x.Kind != api.Call || l == 6:
		return looseSimple(x)
	case l == 2:
		return append([]string{"not"}, loose(x.A[0], 2)...)
	case x.Name == "null":
		return append(loose(x.A[0], 4), "is", "null")
	case l == 3:
		return slices.Concat(loose(x.A[0], 4), []string{x.Name}, loose(x.A[1], 4))
	}
	return slices.Concat(loose(x.A[0], l), []string{x.Name}, loose(x.A[1], l+1))
}

func looseSimple(x api.Term) []string {
	switch {
	case x.Kind == api.Const:
		s, _ := value.Print(x.V)
		if digits, below := strings.CutPrefix(s, "-"); below {
			return []string{"-", digits}
		}
		return []string{s}
	case x.Kind == api.Var:
		return []string{x.Name}
	case x.Kind == api.Field:
		return []string{x.A[0].Name, ".", x.Name}
	case x.Name == "list":
		return slices.Concat([]string{"["}, looseList(x.A), []string{"]"})
	}
	return slices.Concat([]string{x.Name, "("}, looseList(x.A), []string{")"})
}

func looseList(l []api.Term) []string {
	var words []string
	for i, x := range l {
		if i > 0 {
			words = append(words, ",")
		}
		words = append(words, loose(x, 0)...)
	}
	return words
}

// A question is read as it was, too, if it is written with few brackets, and blanks anywhere.
func TestLooselyWrittenIsReadAsItWas(t *testing.T) {
	s := sample.New(64)
	for range 5000 {
		q := s.Query(api.MaxDeep)
		if text, _ := write(s, looseQuery(q)); len(text) <= api.MaxText {
			reads(t, text, q)
		}
	}
}

func looseQuery(q api.Query) []string {
	// The pattern has no brackets that could be left out.
	bare := q
	bare.Where, bare.Items = nil, ask(one()).Items
	text, _ := Print(bare)
	l, _ := split(text)
	var words []string
	for _, w := range l[:len(l)-3] {
		words = append(words, w.text)
	}
	if len(q.Where) > 0 {
		i := slices.Index(words, "return")
		words = slices.Insert(words, i, append([]string{"where"}, loose(q.Where[0], 0)...)...)
	}
	for i, x := range q.Items {
		if i > 0 {
			words = append(words, ",")
		}
		if x.Agg != "" {
			words = slices.Concat(words, []string{x.Agg, "("}, loose(x.T, 0), []string{")"})
		} else {
			words = append(words, loose(x.T, 0)...)
		}
		words = append(words, "as", x.Name)
	}
	return words
}

// A text that is read prints as one that is read as the same; and one that isn't is right up to the place that is told, which hangs on nothing behind it.
func TestReadTexts(t *testing.T) {
	s := sample.New(65)
	read, unread := 0, 0
	for range 20000 {
		text := noisy(s)
		q, at, e := Parse(text)
		if e == api.OK {
			read++
			printed, e := Print(q)
			if e != api.OK && len(text) < 1000 {
				t.Errorf("%q: %d", text, e)
			} else if e == api.OK {
				reads(t, printed, q)
			}
			continue
		}
		if e != api.ErrText {
			if at != 0 {
				t.Errorf("%q: %d, %d", text, at, e)
			}
			continue
		}
		unread++
		if at < 0 || at > len(text) {
			t.Fatalf("%q: %d", text, at)
		}
		if _, cut, e := Parse(text[:at]); e == api.ErrText && cut != at {
			t.Errorf("%q: %d, but cut there %d", text, at, cut)
		}
		if at < len(text) {
			fails(t, text+" ) # (", at, api.ErrText)
		}
	}
	if read < 2000 || unread < 5000 {
		t.Errorf("%d are read, %d aren't", read, unread)
	}
}

// noisy is the text of a question of which some bytes may be others.
func noisy(s *sample.Source) string {
	text, _ := write(s, looseQuery(s.Query(4)))
	b := []byte(text)
	noise := "()[]-+*=<>,.:'\\ \n\tab01_#\xff\xc3\xa9"
	for range s.Below(4) {
		i := s.Below(len(b))
		switch s.Below(3) {
		case 0:
			b[i] = noise[s.Below(len(noise))]
		case 1:
			b = slices.Delete(b, i, i+1)
		case 2:
			b = slices.Insert(b, i, noise[s.Below(len(noise))])
		}
	}
	return string(b)
}

func TestNamesAreAllThatTermsMayName(t *testing.T) {
	s := sample.New(66)
	for range 2000 {
		q := s.Query(3)
		names, arrows, e := Names(q)
		if e != api.OK || len(names) != len(arrows) || !slices.IsSorted(names) || len(slices.Compact(slices.Clone(names))) != len(names) {
			t.Fatalf("%v: %q, %v, %d", q, names, arrows, e)
		}
		for _, name := range append(names, "a", "b", "c", "e0", "e1", "e2", "e3", "n0") {
			i := slices.Index(names, name)
			q.Items = ask(variable(name)).Items
			if e := Check(q); (e == api.OK) != (i >= 0) {
				t.Errorf("%v: %s: %d", q, name, e)
			}
			q.Items = ask(apply("type", variable(name))).Items
			if e := Check(q); (e == api.OK) != (i >= 0 && arrows[i]) {
				t.Errorf("%v: type of %s: %d", q, name, e)
			}
		}
	}
}
