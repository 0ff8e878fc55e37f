package sample

import "espalier/api"

// Grants are some that chapter 17's Check takes, at least one: to n0, n1, and so on. Labels are those of Graph, in any order and at times twice; now and then all.
func (s *Source) Grants() []api.Grant {
	var l []api.Grant
	for _, who := range Names(1 + s.Below(api.MaxGuests)) {
		x := api.Grant{Who: who}
		for range s.Below(api.MaxLabels + 1) {
			x.Labels = append(x.Labels, s.one("L0", "L1", "L2", "L3", "L0", "L1", "L2", "L3", "L0", ""))
		}
		l = append(l, x)
	}
	return l
}
