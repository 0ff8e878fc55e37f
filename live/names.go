package live

import (
	"maps"
	"slices"

	"espalier/api"
	"espalier/query"
	"espalier/term"
)

// Names are those of labels, types and properties that a question names, each once, rising; all: it takes any label of a node, or any type of an edge, too.
func Names(q api.Query) (l []string, all bool, e api.Errno) {
	if e := query.Check(q); e != api.OK {
		return nil, false, e
	}
	met := map[string]int{}
	for _, d := range q.Dots {
		met[d.Label]++
	}
	for _, x := range q.Arrows {
		met[x.Type]++
	}
	all = met[""] > 0
	delete(met, "")
	eachTerm(q, func(t api.Term) {
		if t.Kind == api.Field {
			met[t.Name]++
		}
	})
	return slices.Sorted(maps.Keys(met)), all, api.OK
}

// eachTerm visits all terms of a question, and all within them.
func eachTerm(q api.Query, visit func(api.Term)) {
	for _, t := range q.Where {
		term.Each(t, visit)
	}
	for _, x := range q.Items {
		term.Each(x.T, visit)
	}
}
