package sample

import "espalier/api"

// Guest is one that chapter 16's Check takes: of a few bags, or of none, if all must be told anew.
func (s *Source) Guest() api.Guest {
	u := api.Guest{View: s.Below(4), At: s.Below(9)}
	if s.Below(5) == 0 {
		u.Fresh = true
		return u
	}
	left := api.MaxQueue
	for range s.Below(7) {
		if b := s.Bag(min(left, 12), 0, 2); len(b) > 0 {
			u.Queue = append(u.Queue, b)
			left -= len(b)
		}
	}
	return u
}
