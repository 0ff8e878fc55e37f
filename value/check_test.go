package value

import (
	"strings"
	"testing"

	"espalier/api"
)

func TestCheckTakes(t *testing.T) {
	for _, v := range some() {
		if e := Check(v); e != api.OK {
			t.Errorf("%v: %d", v, e)
		}
	}
	for what, v := range map[string]api.Value{
		"the longest text":  str(strings.Repeat("a", api.MaxText)),
		"the longest list":  many(api.MaxList),
		"the deepest list":  nest(list(), api.MaxDeep-1),
		"the deepest value": nest(num(1), api.MaxDeep),
		"empty, not nil":    {Kind: api.Int, L: []api.Value{}},
		"text, empty list":  {Kind: api.Text, S: "a", L: []api.Value{}},
		"null, empty list":  {L: []api.Value{}},
	} {
		if e := Check(v); e != api.OK {
			t.Errorf("%s: %d", what, e)
		}
	}
}

func TestCheckRefuses(t *testing.T) {
	bad := api.Value{Kind: 9}
	long := str(strings.Repeat("a", api.MaxText+1))
	manyBad := many(api.MaxList + 1)
	manyBad.L[0], manyBad.N = bad, 1
	for _, c := range []struct {
		what string
		v    api.Value
		want api.Errno
	}{
		{"no such kind", bad, api.ErrForm},
		{"a kind below 0", api.Value{Kind: -1}, api.ErrForm},
		{"null with a number", api.Value{N: 1}, api.ErrForm},
		{"null with a text", api.Value{S: "a"}, api.ErrForm},
		{"null with a list", api.Value{L: []api.Value{{}}}, api.ErrForm},
		{"bool 2", api.Value{Kind: api.Bool, N: 2}, api.ErrForm},
		{"bool -1", api.Value{Kind: api.Bool, N: -1}, api.ErrForm},
		{"bool with a text", api.Value{Kind: api.Bool, S: "a"}, api.ErrForm},
		{"int with a text", api.Value{Kind: api.Int, S: "a"}, api.ErrForm},
		{"int with a list", api.Value{Kind: api.Int, L: []api.Value{{}}}, api.ErrForm},
		{"text with a number", api.Value{Kind: api.Text, N: 1}, api.ErrForm},
		{"text with a list", api.Value{Kind: api.Text, L: []api.Value{{}}}, api.ErrForm},
		{"text that isn't UTF-8", str("a\xe2\x82"), api.ErrForm},
		{"half a pair as UTF-8", str("\xed\xa0\x80"), api.ErrForm},
		{"too long a text", long, api.ErrMany},
		{"too long a text of wrong bytes, with a number", api.Value{Kind: api.Text, N: 1, S: strings.Repeat("\xff", api.MaxText+1)}, api.ErrMany},
		{"list with a number", api.Value{Kind: api.List, N: 1}, api.ErrForm},
		{"list with a text", api.Value{Kind: api.List, S: "a"}, api.ErrForm},
		{"too many values", many(api.MaxList + 1), api.ErrMany},
		{"too many ahead of all else", manyBad, api.ErrMany},
		{"too deep", nest(list(), api.MaxDeep), api.ErrMany},
		{"too deep ahead of its values", nest(list(bad), api.MaxDeep), api.ErrMany},
		{"much too deep", nest(num(1), 1000), api.ErrMany},
		{"the first of its values", list(num(1), bad, long), api.ErrForm},
		{"the first of its values, turned", list(num(1), long, bad), api.ErrMany},
		{"values ahead of its own form", api.Value{Kind: api.List, N: 1, L: []api.Value{long}}, api.ErrMany},
		{"a list within", list(list(), api.Value{Kind: api.List, S: "a"}, long), api.ErrForm},
	} {
		if e := Check(c.v); e != c.want {
			t.Errorf("%s: %d, want %d", c.what, e, c.want)
		}
	}
	for _, v := range wrong() {
		if Check(v) == api.OK {
			t.Errorf("taken: %v", v)
		}
	}
}
