package sample

import (
	"slices"
	"testing"

	"espalier/api"
	"espalier/bag"
	"espalier/value"
)

func TestBagsAreRight(t *testing.T) {
	if !slices.IsSortedFunc(rising(), value.Order) {
		t.Errorf("%v", rising())
	}
	s := New(5)
	rows, times := map[int]int{}, map[int]int{}
	for i := range 3000 {
		least, most := i%3, i%3+i%4
		b := s.Bag(12, least, most)
		if e := bag.Check(b); e != api.OK {
			t.Fatalf("%v: %d", b, e)
		}
		for _, c := range b {
			times[c.N]++
			if len(c.R) < least || len(c.R) > most {
				t.Errorf("%v, not of %d to %d", c.R, least, most)
			}
		}
		rows[len(b)]++
		if l := s.Rows(5, least, most); len(l) > 5 || slices.ContainsFunc(l, func(r api.Row) bool { return len(r) < least || len(r) > most }) {
			t.Errorf("%v", l)
		}
	}
	if len(rows) != 13 || len(times) != 6 {
		t.Errorf("%v, %v", rows, times)
	}
}
