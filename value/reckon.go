package value

import (
	"math"

	"espalier/api"
	"espalier/fresh"
)

// Reckon is a and b, put together by a sign.
func Reckon(sign string, a, b api.Value) (api.Value, api.Errno) {
	if sign != "+" && sign != "-" && sign != "*" {
		return api.Value{}, api.ErrWho
	}
	if a.Kind == api.Null || b.Kind == api.Null {
		return api.Value{}, api.OK
	}
	if a.Kind != b.Kind {
		return api.Value{}, api.ErrKind
	}
	switch {
	case a.Kind == api.Int:
		return reckonInts(sign, a.N, b.N)
	case a.Kind == api.Text && sign == "+":
		return joinTexts(a.S, b.S)
	case a.Kind == api.List && sign == "+":
		return joinLists(a.L, b.L)
	}
	return api.Value{}, api.ErrKind
}

func reckonInts(sign string, a, b int) (api.Value, api.Errno) {
	n, fits := 0, false
	switch sign {
	case "+":
		n = a + b
		fits = (n < a) == (b < 0)
	case "-":
		n = a - b
		fits = (n > a) == (b < 0)
	default:
		n = a * b
		// The least number turned wraps round to itself, in the division, too: that can't tell it.
		fits = a == 0 || n/a == b && !(a == -1 && b == math.MinInt)
	}
	if !fits {
		return api.Value{}, api.ErrOver
	}
	return api.Value{Kind: api.Int, N: n}, api.OK
}

func joinTexts(a, b string) (api.Value, api.Errno) {
	if len(a)+len(b) > api.MaxText {
		return api.Value{}, api.ErrMany
	}
	return api.Value{Kind: api.Text, S: a + b}, api.OK
}

func joinLists(a, b []api.Value) (api.Value, api.Errno) {
	if len(a)+len(b) > api.MaxList {
		return api.Value{}, api.ErrMany
	}
	l := make([]api.Value, 0, len(a)+len(b))
	l = append(append(l, a...), b...)
	return api.Value{Kind: api.List, L: fresh.Values(l)}, api.OK
}
