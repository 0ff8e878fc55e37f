package query

import (
	"strings"

	"espalier/api"
	"espalier/value"
)

// blanks are what may stand around words.
const blanks = " \t\n"

// word of a text, and the byte where it begins.
type word struct {
	text string
	at   int
}

// split tells the words of a text, up to what is none; and where that begins (the end of the text, if there is nothing of the kind).
func split(text string) (l []word, end int) {
	for {
		rest := strings.TrimLeft(text[end:], blanks)
		end = len(text) - len(rest)
		long := wordLong(rest)
		if long == 0 {
			return l, end
		}
		l = append(l, word{rest[:long], end})
		end += long
	}
}

// wordLong is how many bytes the word has that s begins with; 0 if it begins with none.
func wordLong(s string) int {
	if long := len(s) - len(strings.TrimLeftFunc(s, plainRune)); long > 0 {
		return long
	}
	for _, sign := range []string{"->", "<-", "<="} {
		if strings.HasPrefix(s, sign) {
			return len(sign)
		}
	}
	switch {
	case s == "":
		return 0
	case s[0] == '\'':
		return textLong(s)
	case strings.IndexByte("()[]-+*=<,.:", s[0]) >= 0:
		return 1
	}
	return 0
}

func plainRune(c rune) bool {
	return 'a' <= c && c <= 'z' || 'A' <= c && c <= 'Z' || '0' <= c && c <= '9' || c == '_'
}

// textLong is wordLong of what begins with a quote; a text that isn't right is no word.
func textLong(s string) int {
	for i := 1; i < len(s); i++ {
		switch s[i] {
		case '\\':
			i++
		case '\'':
			if _, _, e := value.Parse(s[:i+1]); e != api.OK {
				return 0
			}
			return i + 1
		}
	}
	return 0
}
