package plan

import "espalier/api"

// key is what is laid at some spots, one behind the other.
type key [2*api.MaxSteps + 1]int

// unlessInVain goes on but where it went on before, with the same at these spots, and nothing was found. Nothing else may make a difference to whether something is found.
func (f *finder) unlessInVain(spots []int, visit visitor) visitor {
	vain := map[key]int{}
	return func() bool {
		var here key
		for i, spot := range spots {
			here[i] = f.way[spot]
		}
		if vain[here] > 0 {
			return true
		}
		before := len(f.ways)
		more := visit()
		if len(f.ways) == before {
			vain[here]++
		}
		return more
	}
}

// needed are the spots ahead of an arrow that make a difference to what is found from there on: its left dot's, and those with names that are asked there; and whether these are all. (If they are, nothing is met twice. There is no choice at an arrow that is Many, so it isn't counted.)
func (f *finder) needed(arrow int, later map[string]int) (spots []int, all bool) {
	all = true
	look := func(spot int, name string) {
		if spot == arrow || name != "" && later[name] > 0 {
			spots = append(spots, spot)
		} else {
			all = false
		}
	}
	for i, d := range f.q.Dots[:arrow+1] {
		look(i, d.Name)
	}
	for i, x := range f.q.Arrows[:arrow] {
		if !x.Many {
			look(len(f.q.Dots)+i, x.Name)
		}
	}
	return spots, all
}
