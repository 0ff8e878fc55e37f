package code

import (
	"math/rand"
	"strings"

	"espalier/api"
)

func num(n int) api.Value { return api.Value{Kind: api.Int, N: n} }

func str(s string) api.Value { return api.Value{Kind: api.Text, S: s} }

func list(l ...api.Value) api.Value { return api.Value{Kind: api.List, L: l} }

func many(n int) api.Value { return list(make([]api.Value, n)...) }

// nest is v within so many lists.
func nest(v api.Value, lists int) api.Value {
	for range lists {
		v = list(v)
	}
	return v
}

// letters is a text of n bytes.
func letters(n int) string { return strings.Repeat("a", n) }

var null, no, yes = api.Value{}, api.Value{Kind: api.Bool}, api.Value{Kind: api.Bool, N: 1}

// written are values, each with its bytes, written out by hand.
func written() map[string]api.Value {
	return map[string]api.Value{
		"\x00":                                                 null,
		"\x01\x80\x00\x00\x00\x00\x00\x00\x00":                 no,
		"\x01\x80\x00\x00\x00\x00\x00\x00\x01":                 yes,
		"\x02\x80\x00\x00\x00\x00\x00\x00\x00":                 num(0),
		"\x02\x80\x00\x00\x00\x00\x00\x00\x01":                 num(1),
		"\x02\x7f\xff\xff\xff\xff\xff\xff\xff":                 num(-1),
		"\x02\x81\x23\x45\x67\x89\xab\xcd\xef":                 num(0x0123456789abcdef),
		"\x02\x00\x00\x00\x00\x00\x00\x00\x00":                 num(-1 << 63),
		"\x02\xff\xff\xff\xff\xff\xff\xff\xff":                 num(1<<63 - 1),
		"\x03\x00\x00":                                         str(""),
		"\x03\x00\x02ab":                                       str("ab"),
		"\x03\x00\x03€":                                        str("€"),
		"\x03\x00\x01\x00":                                     str("\x00"),
		"\x03\x01\x02" + letters(258):                          str(letters(258)),
		"\x03\x0f\xa0" + letters(4000):                         str(letters(api.MaxText)),
		"\x04\x00":                                             list(),
		"\x04\x01\x00":                                         list(null),
		"\x04\x02\x00\x03\x00\x02ab":                           list(null, str("ab")),
		"\x04\x03\x04\x00\x04\x01\x04\x00\x00":                 list(list(), list(list()), null),
		"\x04\x1e" + strings.Repeat("\x00", 30):                many(api.MaxList),
		"\x04\x01\x04\x01\x04\x01\x04\x01\x04\x01\x04\x00":     nest(list(), api.MaxDeep-1),
		"\x04\x01\x04\x01\x04\x01\x04\x01\x04\x01\x04\x01\x00": nest(null, api.MaxDeep),
	}
}

// torn are bytes of which none of the first are a value's.
func torn() []string {
	return []string{
		"", "\x05", "\xff", "a", "\x05\x00", "\x80\x00",
		"\x01", "\x01\x80\x00\x00\x00\x00\x00\x00", "\x01\x80\x00\x00\x00\x00\x00\x00\x02", "\x01\x00\x00\x00\x00\x00\x00\x00\x01",
		"\x01\x00\x00\x00\x00\x00\x00\x00\x00", "\x01\x81\x00\x00\x00\x00\x00\x00\x00", "\x01\x80\x00\x00\x00\x00\x00\x01\x00", "\x01\x7f\xff\xff\xff\xff\xff\xff\xff",
		"\x02", "\x02\x80", "\x02\x80\x00\x00\x00\x00\x00\x00",
		"\x03", "\x03\x00", "\x03\x00\x02a", "\x03\x00\x01", "\x03\x01\x00" + letters(255), "\x03\xff\xff",
		"\x03\x0f\xa1" + letters(4001), "\x03\xff\xff" + letters(65535),
		"\x03\x00\x01\xff", "\x03\x00\x02\xe2\x82", "\x03\x00\x02€", "\x03\x00\x03\xed\xa0\x80", "\x03\x00\x02\xc0\x80",
		"\x04", "\x04\x01", "\x04\x02\x00", "\x04\x01\x05", "\x04\x02\x00\x03\x00\x02a", "\x04\x02\x04\x01\x00", "\x04\x01\x03\x00\x01\xff",
		"\x04\x1f" + strings.Repeat("\x00", 31), "\x04\xff" + strings.Repeat("\x00", 255), "\x04\x01\x04\x1f" + strings.Repeat("\x00", 31),
		strings.Repeat("\x04\x01", 6) + "\x04\x00", strings.Repeat("\x04\x01", 7) + "\x00", "\x04\x02\x00" + strings.Repeat("\x04\x01", 5) + "\x04\x00",
		"\x04\x01\x01\x80\x00\x00\x00\x00\x00\x00\x02",
	}
}

// randomValue is one that Check takes.
func randomValue(r *rand.Rand, lists int) api.Value {
	switch k := r.Intn(5); {
	case k == api.Bool:
		return api.Value{Kind: api.Bool, N: r.Intn(2)}
	case k == api.Int:
		return num(int(r.Uint64()) >> r.Intn(64))
	case k == api.Text:
		return str(strings.Repeat([]string{"a", "€", "\x00", "\x04"}[r.Intn(4)], r.Intn(300)>>r.Intn(9)))
	case k == api.List && lists < api.MaxDeep:
		v := list()
		for range r.Intn(4) {
			v.L = append(v.L, randomValue(r, lists+1))
		}
		return v
	}
	return null
}
