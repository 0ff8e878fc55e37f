package value

import (
	"math/rand"
	"strings"

	"espalier/api"
)

func num(n int) api.Value { return api.Value{Kind: api.Int, N: n} }

func str(s string) api.Value { return api.Value{Kind: api.Text, S: s} }

func list(l ...api.Value) api.Value { return api.Value{Kind: api.List, L: l} }

func many(n int) api.Value { return list(make([]api.Value, n)...) }

// nest is v within so many lists.
func nest(v api.Value, lists int) api.Value {
	for range lists {
		v = list(v)
	}
	return v
}

var null, no, yes = api.Value{}, api.Value{Kind: api.Bool}, api.Value{Kind: api.Bool, N: 1}

// alike is written by calls within calls, so that it doesn't lean on what is tested.
func alike(a, b api.Value) bool {
	if a.Kind != b.Kind || a.N != b.N || a.S != b.S || len(a.L) != len(b.L) {
		return false
	}
	for i := range a.L {
		if !alike(a.L[i], b.L[i]) {
			return false
		}
	}
	return true
}

func clone(v api.Value) api.Value {
	l := make([]api.Value, len(v.L))
	for i, x := range v.L {
		l[i] = clone(x)
	}
	v.L = l
	return v
}

// some are values of all kinds, with all that Print has to write.
func some() []api.Value {
	return []api.Value{
		null, no, yes,
		num(0), num(1), num(-1), num(10), num(9), num(1<<63 - 1), num(-1 << 63),
		str(""), str("a"), str("ab"), str("b"), str("B"), str("'"), str(`\`), str("\n"), str(`\n`), str("it's"), str("é€😀"), str("\uFFFD"), str("\x00\t\r"),
		list(), list(null), list(null, null), list(num(1)), list(num(1), num(2)), list(num(2)), list(num(1), null), list(null, num(1)),
		list(list()), list(list(), list()), list(list(null), num(1)), list(list(num(1)), null), list(str("a"), list(yes, no)), nest(num(3), 6),
	}
}

// wrong are values that Check doesn't take.
func wrong() []api.Value {
	return []api.Value{
		{Kind: 5}, {Kind: -1}, {Kind: -1 << 63}, {N: 1}, {S: "a"}, {L: []api.Value{{}}},
		{Kind: api.Bool, N: 2}, {Kind: api.Bool, N: -1}, {Kind: api.Bool, S: "a"}, {Kind: api.Bool, L: []api.Value{{}}},
		{Kind: api.Int, N: 1, S: "a"}, {Kind: api.Int, L: []api.Value{{}}}, {Kind: api.Int, L: []api.Value{{Kind: 7}}},
		{Kind: api.Text, N: 1}, {Kind: api.Text, L: []api.Value{{}}}, str("\xff"), str("a\xe2\x82"), str("\xed\xa0\x80"),
		{Kind: api.List, N: 1}, {Kind: api.List, S: "a"}, list(str("\xff")), list(api.Value{Kind: 9}),
		many(api.MaxList + 1), nest(list(), api.MaxDeep), nest(num(1), api.MaxDeep+1), str(strings.Repeat("a", api.MaxText+1)),
	}
}

// randomValue is one that Check takes.
func randomValue(r *rand.Rand, lists int) api.Value {
	letters := []string{"a", "b", "'", `\`, "\n", "n", "é", "€", "😀", "\uFFFD", "[", ",", " ", "\x00"}
	switch k := r.Intn(5); {
	case k == api.Bool:
		return api.Value{Kind: api.Bool, N: r.Intn(2)}
	case k == api.Int:
		return num(int(r.Uint64()) >> r.Intn(64))
	case k == api.Text:
		s := ""
		for range r.Intn(6) {
			s += letters[r.Intn(len(letters))]
		}
		return str(s)
	case k == api.List && lists < api.MaxDeep:
		v := list()
		for range r.Intn(4) {
			v.L = append(v.L, randomValue(r, lists+1))
		}
		return v
	}
	return null
}
