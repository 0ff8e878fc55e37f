// Package value: see doc/01-value.md.
package value

import (
	"unicode/utf8"

	"espalier/api"
)

// Check tells what is wrong with a value.
func Check(v api.Value) api.Errno { return checkWithin(v, 0) }

// checkWithin goes no deeper than MaxDeep lists, so that it ends soon, however deep v is.
func checkWithin(v api.Value, lists int) api.Errno {
	switch v.Kind {
	case api.List:
		return checkList(v, lists)
	case api.Text:
		return checkText(v)
	}
	return checkPlain(v)
}

func checkList(v api.Value, lists int) api.Errno {
	if len(v.L) > api.MaxList || lists >= api.MaxDeep {
		return api.ErrMany
	}
	for _, x := range v.L {
		if e := checkWithin(x, lists+1); e != api.OK {
			return e
		}
	}
	if v.N != 0 || v.S != "" {
		return api.ErrForm
	}
	return api.OK
}

func checkText(v api.Value) api.Errno {
	if len(v.S) > api.MaxText {
		return api.ErrMany
	}
	if !utf8.ValidString(v.S) || v.N != 0 || len(v.L) > 0 {
		return api.ErrForm
	}
	return api.OK
}

func checkPlain(v api.Value) api.Errno {
	right := false
	switch v.Kind {
	case api.Null:
		right = v.N == 0
	case api.Bool:
		right = v.N == 0 || v.N == 1
	case api.Int:
		right = true
	}
	if !right || v.S != "" || len(v.L) > 0 {
		return api.ErrForm
	}
	return api.OK
}

// Truth is the Bool of what holds or doesn't.
func Truth(holds bool) api.Value {
	if holds {
		return api.Value{Kind: api.Bool, N: 1}
	}
	return api.Value{Kind: api.Bool}
}
