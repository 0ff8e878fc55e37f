package fresh

import "espalier/api"

// Guest is u, all lists within it in memory of their own.
func Guest(u api.Guest) api.Guest {
	u.Queue = each(u.Queue, Bag)
	return u
}
