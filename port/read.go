package port

import (
	"strconv"
	"strings"

	"espalier/api"
	"espalier/value"
)

// readAll reads a graph that needn't be right; at is the number of the first line that doesn't fit.
func readAll(s string) (g api.Graph, at int, fits bool) {
	// The empty text has a line, too: one that has no end.
	for first := true; first || s != ""; first = false {
		line, rest, ended := strings.Cut(s, "\n")
		if !ended || !readLine(&g, line, first) {
			return api.Graph{}, at, false
		}
		s = rest
		at++
	}
	return g, 0, true
}

// readLine adds to g what a line says.
func readLine(g *api.Graph, line string, first bool) bool {
	if first {
		return reads(line, word("next"), number(&g.Next))
	}
	var n api.Node
	var x api.Edge
	switch {
	// Behind the first edge there are no more nodes.
	case len(g.Edges) == 0 && reads(line, word("node"), number(&n.ID), labels(&n.Labels), properties(&n.Props)):
		g.Nodes = append(g.Nodes, n)
	case reads(line, word("edge"), number(&x.ID), number(&x.From), number(&x.To), kind(&x.Type), properties(&x.Props)):
		g.Edges = append(g.Edges, x)
	default:
		return false
	}
	return true
}

// part of a line: it takes off the front what it stands for, and keeps it where it was told to. Every word but the first has its blank ahead.
type part func(line string) (rest string, fits bool)

// reads tells whether a line is these parts, one behind the other, and nothing else.
func reads(line string, parts ...part) bool {
	for _, take := range parts {
		rest, fits := take(line)
		if !fits {
			return false
		}
		line = rest
	}
	return line == ""
}

// cut takes off what stands behind ahead, up to the next blank.
func cut(line, ahead string) (word, rest string, fits bool) {
	rest, fits = strings.CutPrefix(line, ahead)
	long := strings.IndexByte(rest, ' ')
	if long < 0 {
		long = len(rest)
	}
	return rest[:long], rest[long:], fits
}

func word(s string) part {
	return func(line string) (string, bool) { return strings.CutPrefix(line, s) }
}

func number(n *int) part {
	return func(line string) (string, bool) {
		digits, rest, fits := cut(line, " ")
		var err error
		*n, err = strconv.Atoi(digits)
		// Noughts ahead, and signs that needn't be there, are numbers that would be written otherwise.
		return rest, fits && err == nil && strconv.Itoa(*n) == digits
	}
}

func kind(s *string) part {
	return func(line string) (rest string, fits bool) {
		*s, rest, fits = cut(line, " :")
		return rest, fits
	}
}

// labels are as many as stand here, also none.
func labels(l *[]string) part {
	return func(line string) (string, bool) {
		for {
			label, rest, fits := cut(line, " :")
			if !fits {
				return line, true
			}
			*l, line = append(*l, label), rest
		}
	}
}

// properties are all that is left of a line.
func properties(l *[]api.Prop) part {
	return func(line string) (string, bool) {
		for line != "" {
			p, rest, fits := property(line)
			if !fits {
				return line, false
			}
			*l, line = append(*l, p), rest
		}
		return "", true
	}
}

func property(line string) (p api.Prop, rest string, fits bool) {
	line, blank := strings.CutPrefix(line, " ")
	name, rest, found := strings.Cut(line, "=")
	if !blank || !found || strings.Contains(name, " ") {
		return api.Prop{}, "", false
	}
	long := valueLong(rest)
	v, _, e := value.Parse(rest[:long])
	return api.Prop{Name: name, Value: v}, rest[long:], e == api.OK
}

// valueLong is how many bytes stand ahead of the blank that ends a value, or of the end: the blanks within its texts don't end it.
func valueLong(s string) int {
	within := false
	for i := 0; i < len(s); i++ {
		switch {
		case s[i] == '\'':
			within = !within
		case s[i] == '\\' && within:
			i++
		case s[i] == ' ' && !within:
			return i
		}
	}
	return len(s)
}
