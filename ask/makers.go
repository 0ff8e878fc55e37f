package ask

import (
	"math/bits"
	"slices"

	"espalier/api"
	"espalier/value"
)

// maker makes one value of many, none of them Null.
type maker func(l []api.Value) api.Value

// makers are those by their words. Of an item without one, all values of a part are the same: the first is that; or they are all Null, and so is the first of none.
func makers() map[string]maker {
	return map[string]maker{
		"":      first,
		"count": count,
		"sum":   sum,
		"min":   first,
		"max":   last,
	}
}

// known are those of l that aren't Null.
func known(l []api.Value) []api.Value {
	var out []api.Value
	for _, v := range l {
		if v.Kind != api.Null {
			out = append(out, v)
		}
	}
	return out
}

func count(l []api.Value) api.Value { return api.Value{Kind: api.Int, N: len(l)} }

// sum has twice as many bits as an Int: what is too great on the way may not be so in the end.
func sum(l []api.Value) api.Value {
	var high, low, carry uint64
	for _, v := range l {
		if v.Kind == api.Int {
			low, carry = bits.Add64(low, uint64(v.N), 0)
			high, _ = bits.Add64(high, uint64(v.N>>63), carry)
		}
	}
	n := int(low)
	if high != uint64(n>>63) {
		return api.Value{}
	}
	return api.Value{Kind: api.Int, N: n}
}

func first(l []api.Value) api.Value {
	if len(l) == 0 {
		return api.Value{}
	}
	return slices.MinFunc(l, value.Order)
}

func last(l []api.Value) api.Value {
	if len(l) == 0 {
		return api.Value{}
	}
	return slices.MaxFunc(l, value.Order)
}
