package sample

import "espalier/api"

// Plan is one of a question that chapter 11's Check takes: it finds all dots, and asks something now and then.
func (s *Source) Plan(q api.Query) api.Plan {
	p := api.Plan{Kind: api.Scan}
	for n := range q.Dots {
		if n > 0 {
			p = api.Plan{Kind: api.Hop, N: n - 1, From: []api.Plan{p}}
		}
		found := api.Query{Dots: q.Dots[:n+1], Arrows: q.Arrows[:n]}
		for range s.Below(8) - 5 {
			p = api.Plan{Kind: api.Sift, Where: s.Where(found), From: []api.Plan{p}}
		}
	}
	return p
}
