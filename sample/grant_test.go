package sample

import (
	"slices"
	"testing"

	"espalier/api"
	"espalier/grant"
)

func TestGrantsAreRight(t *testing.T) {
	s := New(17)
	many, labels, all := map[int]int{}, map[int]int{}, 0
	for range 3000 {
		l := s.Grants()
		if e := grant.Check(l); e != api.OK {
			t.Fatalf("%v: %d", l, e)
		}
		many[len(l)]++
		for _, x := range l {
			labels[len(x.Labels)]++
			if slices.Contains(x.Labels, "") {
				all++
			}
		}
	}
	if len(many) != api.MaxGuests || len(labels) != api.MaxLabels+1 || all < 500 {
		t.Errorf("%v, %v, %d see all", many, labels, all)
	}
}
