package sample

import (
	"testing"

	"espalier/api"
	"espalier/guest"
)

func TestGuestsAreRight(t *testing.T) {
	s := New(16)
	bags, anew, most := map[int]int{}, 0, 0
	for range 3000 {
		u := s.Guest()
		if e := guest.Check(u); e != api.OK {
			t.Fatalf("%v: %d", u, e)
		}
		if u.Fresh {
			anew++
		} else {
			bags[len(u.Queue)]++
		}
		rows := 0
		for _, b := range u.Queue {
			rows += len(b)
		}
		most = max(most, rows)
	}
	if len(bags) != 7 || anew < 300 || most < api.MaxQueue-3 {
		t.Errorf("%v, %d anew, at most %d rows", bags, anew, most)
	}
}
