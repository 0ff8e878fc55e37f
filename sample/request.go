package sample

import "espalier/api"

// Question is a text of which chapter 6 reads a question, but for one in eight; labels, types and properties are those of Graph. One of them stands in more ways than it may as soon as a few nodes reach each other.
func (s *Source) Question() string {
	if s.Below(8) == 0 {
		return s.one("", "match (a) return", "match (a) return b as b", "match (a) return size() as n")
	}
	return s.one(
		"match (a) return id(a) as n",
		"match (a) return a.p0 as x, id(a) as n",
		"match (a:L0) return count(1) as n",
		"match (a:L1)<-[:T1]-(b) return distinct b.p2 as x",
		"match (a)-[e]->(b) return type(e) as t, count(1) as n, max(a.p1) as x",
		"match (a)-[e]->(b) where a.p1 = b.p1 or a < b return e as e",
		"match (a)-[*]->(b) return a as a, b as b",
		"match (a)-[*]->(a) return distinct id(a) as a",
		"match ()-[*]->()-[*]->()-[*]->()-[*]->() return count(1) as n",
	)
}

// Request is one of any kind to a desk of this graph, so many views and so many guests: most of them go.
func (s *Source) Request(g api.Graph, views, guests int) api.Request {
	switch k := s.Below(20); {
	case k < 9:
		return api.Request{Kind: api.Commit, Ops: s.Ops(g, 5)}
	case k < 11:
		return api.Request{Kind: api.Ask, Text: s.Question()}
	case k < 13:
		return api.Request{Kind: api.Watch, Text: s.Question()}
	case k < 15:
		return api.Request{Kind: api.Join, N: s.place(views)}
	case k < 19:
		return api.Request{Kind: api.Take, N: s.place(guests)}
	case s.Below(4) > 0:
		return api.Request{Kind: api.Crash, N: s.place(1)}
	}
	return api.Request{Kind: s.Below(9) * 7, N: s.Below(3)}
}

// place is one of n, but now and then just behind them, or ahead.
func (s *Source) place(n int) int {
	switch s.Below(16) {
	case 0:
		return n
	case 1:
		return -1
	}
	return s.Below(n)
}
