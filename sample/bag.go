package sample

import (
	"slices"

	"espalier/api"
)

// rising are values of all kinds, in chapter 1's Order.
func rising() []api.Value {
	return []api.Value{{}, {Kind: api.Bool}, {Kind: api.Bool, N: 1}, Int(-1), Int(0), Int(2), Text(""), Text("a"), List(), List(api.Value{}), List(Int(1), List())}
}

// Row is one of at least and at most so many values. There are few of them, so that the same ones come again.
func (s *Source) Row(least, most int) api.Row { return row(s.places(least, most)) }

// places are those of a row's values among rising.
func (s *Source) places(least, most int) []int {
	var l []int
	for range least + s.Below(most-least+1) {
		l = append(l, s.Below(len(rising())))
	}
	return l
}

func row(places []int) api.Row {
	var r api.Row
	for _, i := range places {
		r = append(r, rising()[i])
	}
	return r
}

// Rows are at most so many, each of at least and at most so many values.
func (s *Source) Rows(many, least, most int) []api.Row {
	var l []api.Row
	for range s.Below(many + 1) {
		l = append(l, s.Row(least, most))
	}
	return l
}

// Bag is one that chapter 9's Check takes, of at most so many rows, each of at least and at most so many values, and -3 to 3 times. Places rise as the rows do that are made of them.
func (s *Source) Bag(many, least, most int) api.Bag {
	var l [][]int
	for range s.Below(many + 1) {
		l = append(l, s.places(least, most))
	}
	slices.SortFunc(l, slices.Compare)
	var b api.Bag
	for _, places := range slices.CompactFunc(l, slices.Equal) {
		b = append(b, api.Count{R: row(places), N: (1 + s.Below(3)) * (1 - 2*s.Below(2))})
	}
	return b
}
