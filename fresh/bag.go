package fresh

import "espalier/api"

// Bag is b, all lists within it in memory of their own.
func Bag(b api.Bag) api.Bag { return each(b, count) }

func count(c api.Count) api.Count {
	c.R = Values(c.R)
	return c
}
