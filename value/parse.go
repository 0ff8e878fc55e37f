package value

import (
	"strconv"
	"strings"
	"unicode/utf8"

	"espalier/api"
)

// maxOpen is how many brackets may be open where another one opens; far above MaxDeep, so that Check tells of most lists that are too deep.
const maxOpen = 40

// misfit is what a reader gives up with: the place at which something else should stand.
type misfit struct{ at int }

// reader reads a text from at on.
type reader struct {
	text string
	at   int
}

// Parse reads what Print writes.
func Parse(text string) (v api.Value, at int, e api.Errno) {
	if len(text) > api.MaxText {
		return api.Value{}, 0, api.ErrMany
	}
	v, at, e = readAll(text)
	if e != api.OK {
		return api.Value{}, at, e
	}
	if e = Check(v); e != api.OK {
		return api.Value{}, 0, e
	}
	return v, 0, api.OK
}

// readAll is where a reader begins, and where its giving up ends.
func readAll(text string) (v api.Value, at int, e api.Errno) {
	defer func() {
		p := recover()
		if p == nil {
			return
		}
		m, ok := p.(misfit)
		if !ok {
			panic(p)
		}
		v, at, e = api.Value{}, m.at, api.ErrText
	}()
	r := &reader{text: text}
	v = r.value(0)
	if r.at < len(text) {
		panic(misfit{r.at})
	}
	return v, 0, api.OK
}

// take goes on behind word if it stands here.
func (r *reader) take(word string) bool {
	if !strings.HasPrefix(r.text[r.at:], word) {
		return false
	}
	r.at += len(word)
	return true
}

func (r *reader) value(lists int) api.Value {
	first := r.at
	switch {
	case r.take("null"):
		return api.Value{}
	case r.take("true"):
		return Truth(true)
	case r.take("false"):
		return Truth(false)
	case r.take("'"):
		return r.quoted()
	case r.take("["):
		if lists >= maxOpen {
			panic(misfit{first})
		}
		return r.list(lists + 1)
	}
	return r.number()
}

// list reads on behind a bracket.
func (r *reader) list(lists int) api.Value {
	v := api.Value{Kind: api.List}
	if r.take("]") {
		return v
	}
	for {
		v.L = append(v.L, r.value(lists))
		if r.take("]") {
			return v
		}
		if !r.take(",") {
			panic(misfit{r.at})
		}
	}
}

// number also gives up where nothing stands that a number could begin with: the place is the same.
func (r *reader) number() api.Value {
	first := r.at
	r.take("-")
	for r.at < len(r.text) && '0' <= r.text[r.at] && r.text[r.at] <= '9' {
		r.at++
	}
	word := r.text[first:r.at]
	n, err := strconv.Atoi(word)
	// Noughts ahead, and -0, are numbers that would be written otherwise.
	if err != nil || strconv.Itoa(n) != word {
		panic(misfit{first})
	}
	return api.Value{Kind: api.Int, N: n}
}

// quoted reads on behind the quote that opens a text.
func (r *reader) quoted() api.Value {
	var out strings.Builder
	for !r.take("'") {
		out.WriteString(r.letter())
	}
	return api.Value{Kind: api.Text, S: out.String()}
}

// letter reads one rune of a text.
func (r *reader) letter() string {
	switch {
	case r.take(`\'`):
		return "'"
	case r.take(`\\`):
		return `\`
	case r.take(`\n`):
		return "\n"
	}
	c, size := utf8.DecodeRuneInString(r.text[r.at:])
	// A size below 2 tells wrong bytes, and the end, from a RuneError that is written out.
	if c == '\\' || c == '\n' || c == utf8.RuneError && size < 2 {
		panic(misfit{r.at})
	}
	r.at += size
	return r.text[r.at-size : r.at]
}
