package match

import (
	"cmp"
	"slices"

	"espalier/api"
	"espalier/term"
)

// part of Where: that is true just if all its parts are, so each of them may be asked as soon as its names stand for something.
type part struct {
	t     api.Term
	names []string // rising
}

func partsOf(l []api.Term) []part {
	var out []part
	for _, t := range l {
		for _, x := range term.Parts(t) {
			out = append(out, part{x, term.Free(x)})
		}
	}
	return out
}

// holds tells whether all these parts are true.
func (s *search) holds(parts []part, names term.Names) bool {
	for _, p := range parts {
		if v := s.calls.Value(p.t, names); v.Kind != api.Bool || v.N != 1 {
			return false
		}
	}
	return true
}

// asking are the parts that ask for just these names, which must rise.
func (s *search) asking(names ...string) []part {
	var out []part
	for _, p := range s.parts {
		if slices.Equal(p.names, names) {
			out = append(out, p)
		}
	}
	return out
}

// tying are the parts that ask for several names, those with fewer first.
func (s *search) tying() []part {
	var out []part
	for _, p := range s.parts {
		if len(p.names) > 1 {
			out = append(out, p)
		}
	}
	slices.SortStableFunc(out, func(p, q part) int { return cmp.Compare(len(p.names), len(q.names)) })
	return out
}

// order is that in which spots are laid. Those come first that parts of Where tie to each other: links don't know of these, so nothing else is to be tried again and again for what isn't true. An arrow comes behind its dots.
func (s *search) order() []int {
	var out []int
	add := func(spots ...int) {
		for _, spot := range spots {
			if !slices.Contains(out, spot) {
				out = append(out, spot)
			}
		}
	}
	for _, p := range s.tying() {
		for _, name := range p.names {
			for spot, x := range s.spots {
				if x == name {
					add(s.needed(spot)...)
				}
			}
		}
	}
	for spot := range s.spots {
		add(spot)
	}
	return out
}

// needed are the spots that must be laid when that one is: it itself, and an arrow's dots ahead of it.
func (s *search) needed(spot int) []int {
	if left := spot - len(s.q.Dots); left >= 0 {
		return []int{left, left + 1, spot}
	}
	return []int{spot}
}

// ties are, of each spot in that order, the parts that ask for several names of which it is the last.
func (s *search) ties(order []int) [][]part {
	out := make([][]part, len(order))
	for _, p := range s.tying() {
		last := 0
		for i, spot := range order {
			if slices.Contains(p.names, s.spots[spot]) {
				last = i
			}
		}
		out[last] = append(out[last], p)
	}
	return out
}
