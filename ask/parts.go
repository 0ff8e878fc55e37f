package ask

import (
	"slices"

	"espalier/api"
	"espalier/value"
)

// together makes one row of all that belong together, if an item asks for what is made of many.
func together(items []api.Item, rows []api.Row) []api.Row {
	if !slices.ContainsFunc(items, ofMany) {
		return rows
	}
	made := makers()
	var out []api.Row
	for _, part := range partsOf(items, rows) {
		var r api.Row
		for i, x := range items {
			r = append(r, made[x.Agg](known(column(part, i))))
		}
		out = append(out, r)
	}
	return out
}

func ofMany(x api.Item) bool { return x.Agg != "" }

func ofOne(x api.Item) bool { return x.Agg == "" }

// partsOf are the rows that have the same values of all items that aren't made of many.
func partsOf(items []api.Item, rows []api.Row) [][]api.Row {
	if !slices.ContainsFunc(items, ofOne) {
		return [][]api.Row{rows}
	}
	places := placesOf(items, rows)
	met := map[place]int{}
	var out [][]api.Row
	for k, r := range rows {
		at, found := met[places[k]]
		if !found {
			at = len(out)
			met[places[k]] = at
			out = append(out, nil)
		}
		out[at] = append(out[at], r)
	}
	return out
}

// place tells a part from the others: of each item that isn't made of many how many rows have a value ahead of its own; 0 of the rest.
type place [api.MaxItems]int

func placesOf(items []api.Item, rows []api.Row) []place {
	out := make([]place, len(rows))
	for i, x := range items {
		if ofOne(x) {
			for k, n := range ahead(column(rows, i)) {
				out[k][i] = n
			}
		}
	}
	return out
}

// ahead is, of each of l, how many of them are ahead of it by Order: so many of two just if they are the same.
func ahead(l []api.Value) []int {
	rising := slices.Clone(l)
	slices.SortFunc(rising, value.Order)
	var out []int
	for _, v := range l {
		n, _ := slices.BinarySearchFunc(rising, v, value.Order)
		out = append(out, n)
	}
	return out
}

func column(rows []api.Row, i int) []api.Value {
	var out []api.Value
	for _, r := range rows {
		out = append(out, r[i])
	}
	return out
}
