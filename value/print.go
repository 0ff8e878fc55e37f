package value

import (
	"strconv"

	"espalier/api"
)

// Print writes a value as Parse reads it.
func Print(v api.Value) (string, api.Errno) {
	if e := Check(v); e != api.OK {
		return "", e
	}
	out := appendValue(nil, v)
	if len(out) > api.MaxText {
		return "", api.ErrMany
	}
	return string(out), api.OK
}

// appendValue adds nothing of note once out is too long to be told: a value that Check takes may have millions of others in it.
func appendValue(out []byte, v api.Value) []byte {
	if len(out) > api.MaxText {
		return out
	}
	switch v.Kind {
	case api.Bool:
		return strconv.AppendBool(out, v.N == 1)
	case api.Int:
		return strconv.AppendInt(out, int64(v.N), 10)
	case api.Text:
		return appendText(out, v.S)
	case api.List:
		return appendList(out, v.L)
	}
	return append(out, "null"...)
}

func appendText(out []byte, s string) []byte {
	out = append(out, '\'')
	for i := range len(s) {
		switch c := s[i]; c {
		case '\'', '\\':
			out = append(out, '\\', c)
		case '\n':
			out = append(out, '\\', 'n')
		default:
			out = append(out, c)
		}
	}
	return append(out, '\'')
}

func appendList(out []byte, l []api.Value) []byte {
	out = append(out, '[')
	for i, x := range l {
		if i > 0 {
			out = append(out, ',')
		}
		out = appendValue(out, x)
	}
	return append(out, ']')
}
