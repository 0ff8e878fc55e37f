package fresh

import "espalier/api"

// Store is s, all lists within it in memory of their own.
func Store(s api.Store) api.Store {
	s.G = Graph(s.G)
	s.Text = append([]string(nil), s.Text...)
	return s
}
