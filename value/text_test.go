package value

import (
	"strings"
	"testing"

	"espalier/api"
)

func TestPrint(t *testing.T) {
	for _, c := range []struct {
		v    api.Value
		want string
	}{
		{null, "null"},
		{no, "false"},
		{yes, "true"},
		{num(0), "0"},
		{num(10), "10"},
		{num(-7), "-7"},
		{num(1<<63 - 1), "9223372036854775807"},
		{num(-1 << 63), "-9223372036854775808"},
		{str(""), "''"},
		{str("it's"), `'it\'s'`},
		{str("a\\b\nc\td\x00"), "'a\\\\b\\nc\td\x00'"},
		{str("é😀"), "'é😀'"},
		{list(), "[]"},
		{list(num(1), null), "[1,null]"},
		{list(list(str("'")), list(), yes), `[['\''],[],true]`},
		{nest(list(), api.MaxDeep-1), "[[[[[[]]]]]]"},
	} {
		if got, e := Print(c.v); got != c.want || e != api.OK {
			t.Errorf("%v: %q, %d, want %q", c.v, got, e, c.want)
		}
	}
}

func TestPrintRefuses(t *testing.T) {
	for _, v := range wrong() {
		if got, e := Print(v); got != "" || e != Check(v) {
			t.Errorf("%v: %q, %d, want %d", v, got, e, Check(v))
		}
	}
	longest := strings.Repeat("a", api.MaxText-2)
	if got, e := Print(str(longest)); got != "'"+longest+"'" || e != api.OK {
		t.Error("the longest text", len(got), e)
	}
	wide := many(api.MaxList)
	for i := range wide.L {
		wide.L[i] = many(api.MaxList)
	}
	bad := list(str(longest+"a"), api.Value{Kind: 9})
	for _, c := range []struct {
		what string
		v    api.Value
		want api.Errno
	}{
		{"a byte too long", str(longest + "a"), api.ErrMany},
		{"too long by what is put ahead", str(longest[:len(longest)-1] + "\n"), api.ErrMany},
		{"too long by brackets", list(str(longest)), api.ErrMany},
		{"a list of lists", wide, api.ErrMany},
		{"too long, and not right", bad, api.ErrForm},
	} {
		if got, e := Print(c.v); got != "" || e != c.want {
			t.Errorf("%s: %q, %d, want %d", c.what, got, e, c.want)
		}
	}
}

func TestParse(t *testing.T) {
	longest := "'" + strings.Repeat("a", api.MaxText-2) + "'"
	for text, want := range map[string]api.Value{
		"null":                   null,
		"true":                   yes,
		"false":                  no,
		"0":                      num(0),
		"-1":                     num(-1),
		"-9223372036854775808":   num(-1 << 63),
		"9223372036854775807":    num(1<<63 - 1),
		"''":                     str(""),
		`'it\'s'`:                str("it's"),
		`'\\n\n\\'`:              str("\\n\n\\"),
		"'\t\r\x00\uFFFD é😀[],'": str("\t\r\x00\uFFFD é😀[],"),
		"[]":                     list(),
		"[1,null]":               list(num(1), null),
		"[[],['a',[-2]],true]":   list(list(), list(str("a"), list(num(-2))), yes),
		"[[[[[[7]]]]]]":          nest(num(7), 6),
		longest:                  str(longest[1 : api.MaxText-1]),
	} {
		if got, at, e := Parse(text); e != api.OK || at != 0 || !alike(got, want) {
			t.Errorf("%q: %v, %d, %d, want %v", text, got, at, e, want)
		}
	}
}

func TestParseRefuses(t *testing.T) {
	open := func(n int) string { return strings.Repeat("[", n) }
	shut := func(n int) string { return strings.Repeat("]", n) }
	for _, c := range []struct {
		text string
		at   int
	}{
		{"", 0}, {" ", 0}, {" 1", 0}, {"x", 0}, {"]", 0}, {",", 0}, {`\`, 0}, {"+1", 0}, {"\xff", 0}, {"\"a\"", 0},
		{"nul", 0}, {"Null", 0}, {"tru", 0}, {"fals", 0}, {"[1,nul]", 3},
		{"-", 0}, {"--1", 0}, {"- 1", 0}, {"01", 0}, {"00", 0}, {"-0", 0}, {"-01", 0}, {"9223372036854775808", 0}, {"-9223372036854775809", 0},
		{strings.Repeat("9", api.MaxText), 0}, {"[1,-]", 3}, {"[0,07]", 3}, {"[99999999999999999999x", 1},
		{"1 ", 1}, {"1x", 1}, {"12-3", 2}, {"1.5", 1}, {"1_0", 1}, {"truex", 4}, {"nullnull", 4}, {"''''", 2}, {"[]]", 2}, {"[]\n", 2}, {"0-", 1},
		{"'", 1}, {"'a", 2}, {"'é", 3}, {`'a\'`, 4}, {`'a\`, 2}, {`'\x'`, 1}, {`'ab\t'`, 3}, {`'\N'`, 1}, {`'\\\x'`, 3}, {"'\\\n'", 1},
		{"'a\nb'", 2}, {"'a\xff'", 2}, {"'é\xe2\x82'", 3}, {"'\xe2\x82", 1}, {"'\xed\xa0\x80'", 1}, {"'\xc0\x80'", 1}, {"'\\\xff'", 1},
		{"[", 1}, {"[1", 2}, {"[1,", 3}, {"[1,]", 3}, {"[,1]", 1}, {"[1,,2]", 3}, {"[ 1]", 1}, {"[1 ,2]", 2}, {"[1, 2]", 3}, {"[1;2]", 2}, {"[1[", 2}, {"[]1", 2}, {"[nullx]", 5}, {"[[1]", 4}, {"['a]", 4}, {"[1,'\\q']", 4},
		{open(41) + shut(41), 40}, {open(41), 40}, {open(3000), 40}, {"[1," + open(40), 42}, {open(40), 40}, {open(40) + "x", 40},
	} {
		if v, at, e := Parse(c.text); e != api.ErrText || at != c.at || !alike(v, null) {
			t.Errorf("%.60q: %v, %d, %d, want %d", c.text, v, at, e, c.at)
		}
	}
	for _, text := range []string{
		strings.Repeat("a", api.MaxText+1),
		"'" + strings.Repeat("a", api.MaxText-1) + "'",
		"[[[[[[[]]]]]]]",
		open(7) + "1" + shut(7),
		open(40) + shut(40),
		"[" + strings.Repeat("1,", api.MaxList) + "1]",
		"[2,[" + strings.Repeat("1,", api.MaxList) + "1]]",
	} {
		if v, at, e := Parse(text); e != api.ErrMany || at != 0 || !alike(v, null) {
			t.Errorf("%.60q: %v, %d, %d", text, v, at, e)
		}
	}
}
