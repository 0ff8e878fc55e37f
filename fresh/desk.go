package fresh

import "espalier/api"

// Hold is h, all lists within it in memory of their own. Its question must be right (chapter 6).
func Hold(h api.Hold) api.Hold {
	h.Q = Query(h.Q)
	h.Found = each(h.Found, way)
	return h
}

func way(l []int) []int { return append([]int(nil), l...) }

// Desk is d, all lists within it in memory of their own. The questions of its views must be right (chapter 6).
func Desk(d api.Desk) api.Desk {
	d.S = Store(d.S)
	d.Views = each(d.Views, Hold)
	d.Guests = each(d.Guests, Guest)
	return d
}
