package bag

import (
	"slices"
	"testing"

	"espalier/api"
	"espalier/sample"
)

func TestJoin(t *testing.T) {
	for _, c := range []struct {
		a, b string
		k    int
		want string
	}{
		{"", "", 0, ""},
		{"", "1*[1]", 1, ""},
		{"1*[1]", "", 1, ""},
		{"1*[1,3] 2*[2,1]", "1*[1,3] 2*[2,1]", 1, "1*[1,3,3] 4*[2,1,1]"},
		{"1*[1,3] 2*[2,1]", "1*[1,3] 2*[2,1]", 2, "1*[1,3] 4*[2,1]"},
		{"2*[1] 3*[2]", "5*['a'] 7*['b']", 0, "10*[1,'a'] 14*[1,'b'] 15*[2,'a'] 21*[2,'b']"},
		{"2*[1]", "1*[]", 0, "2*[1]"},
		{"2*[]", "-3*[]", 0, "-6*[]"},
		{"1*[1] 1*[1,5]", "1*[1] 1*[1,5] 1*[2]", 1, "1*[1] 2*[1,5] 1*[1,5,5]"},
		{"2*[1,'a'] 3*[1,'b']", "5*[1,'c'] 7*[1,'d']", 1, "10*[1,'a','c'] 14*[1,'a','d'] 15*[1,'b','c'] 21*[1,'b','d']"},
		{"1*[1,2] 1*[2,1]", "1*[1,1,'a'] 1*[2,1,'b'] 1*[2,2,'c']", 2, "1*[2,1,'b']"},
		{"-2*[1]", "3*[1]", 1, "-6*[1]"},
		{"-2*[1]", "-3*[1]", 1, "6*[1]"},
		{"1*[1]", "1*['1'] 1*[[1]]", 1, ""},
		{"1*[true]", "1*[1]", 1, ""},
		{"1*[null]", "1*[null]", 1, ""},
		{"1*[null]", "1*[null]", 0, "1*[null,null]"},
		{"1*[1,null]", "1*[1,null]", 1, "1*[1,null,null]"},
		{"1*[1,null]", "1*[1,null]", 2, ""},
		{"1*[null,1]", "1*[null,1]", 2, ""},
		{"1*[[null]]", "1*[[null]]", 1, "1*[[null]]"},
		{"1*[[]]", "1*[[]]", 1, "1*[[]]"},
		{"1*[1] -1*[1,2]", "1*[2,3] 1*[3]", 0, "-1*[1,2,2,3] 1*[1,3]"},
		{"1*[1] 1*[1,2]", "1*[2,3] 1*[3]", 0, "1*[1,2,2,3] 2*[1,2,3] 1*[1,3]"},
		{"1048576*[1]", "1048576*[1]", 1, "1099511627776*[1]"},
		{"1048576*[1]", "-1048576*[1]", 1, "-1099511627776*[1]"},
		{"1099511627776*[1]", "-1*[1]", 1, "-1099511627776*[1]"},
		{"1099511627776*[1]", "1099511627776*[2]", 1, ""},
		{"1099511627776*[null]", "1099511627776*[null]", 1, ""},
		{"1099511627776*[1] -1*[1,2]", "1*[2,3] 1*[3]", 0, "-1*[1,2,2,3] 1099511627775*[1,2,3] 1099511627776*[1,3]"},
	} {
		got, e := Join(read(c.a), read(c.b), c.k)
		tells(t, c.a+" and "+c.b, got, e, c.want)
	}
}

// As much as may be: rows, pairs of them, values in a row.
func TestJoinOfMuch(t *testing.T) {
	full := once(wide(api.MaxList, sample.Int(1)))
	got, e := Join(full, full, api.MaxList)
	tells(t, "all values the same", got, e, wrote(full))
	got, e = Join(once(wide(20, sample.Int(1))), once(wide(20, sample.Int(1))), 10)
	tells(t, "the longest row", got, e, wrote(full))
	got, e = Join(numbered(api.MaxRows, 0, 2), numbered(10, 5, 3), 1)
	tells(t, "the most pairs", got, e, wrote(numbered(10, 5, 6)))
	got, e = Join(read("1*[]"), numbered(api.MaxRows, 0, 2), 0)
	tells(t, "the most rows", got, e, wrote(numbered(api.MaxRows, 0, 2)))
}

// Rows of as many values are the same here, whichever pairs make them.
func TestJoinOfPairsThatMakeOneRow(t *testing.T) {
	var l, want api.Bag
	for i := range api.MaxList {
		l = append(l, api.Count{R: wide(i, sample.Int(1)), N: 1})
		want = append(want, api.Count{R: wide(i, sample.Int(1)), N: min(i+1, 10, api.MaxList-i)})
	}
	got, e := Join(l[:10], l[:api.MaxList-9], 0)
	tells(t, "many pairs", got, e, wrote(want))
}

func TestJoinRefuses(t *testing.T) {
	long, great := once(wide(16, sample.Int(1))), numbered(1, 0, mostTimes)
	wrongRow := api.Bag{{R: api.Row{sample.WrongText()}}}
	for _, c := range []struct {
		what string
		a, b api.Bag
		k    int
		want api.Errno
	}{
		{"below", nil, nil, -1, api.ErrRange},
		{"above", nil, nil, api.MaxList + 1, api.ErrRange},
		{"the least number", great, great, -1 << 63, api.ErrRange},
		{"the greatest number", great, great, 1<<63 - 1, api.ErrRange},
		{"a short row of a", read("1*[] 1*[1]"), read("1*[1]"), 1, api.ErrRange},
		{"a short row of b", read("1*[1,1]"), read("1*[1] 1*[2,2]"), 2, api.ErrRange},
		{"a short row of b, a has none", nil, read("1*[1]"), 2, api.ErrRange},
		{"a short last row", read("1*[1,1] 1*[2]"), nil, 2, api.ErrRange},
		{"a short wrong row", wrongRow, nil, 2, api.ErrRange},
		{"a short row behind too many", append(numbered(3*api.MaxRows, 0, 1), api.Count{}), numbered(api.MaxRows, 0, 1), 1, api.ErrRange},
		{"many pairs", numbered(api.MaxRows, 0, 1), numbered(11, 0, 1), 1, api.ErrMany},
		{"many pairs by one", numbered(3, 0, 1), numbered(6667, 0, 1), 1, api.ErrMany},
		{"many pairs of wrong rows", slices.Repeat(wrongRow, 142), slices.Repeat(wrongRow, 141), 1, api.ErrMany},
		{"many pairs with one wrong row", wrongRow, numbered(maxPairs+1, 0, 1), 1, api.ErrMany},
		{"fewer pairs with one wrong row", wrongRow, numbered(maxPairs, 0, 1), 1, api.ErrForm},
		{"fewer pairs of wrong rows", slices.Repeat(wrongRow, 141), slices.Repeat(wrongRow, 141), 1, api.ErrForm},
		{"no pairs, but many rows", nil, numbered(api.MaxRows+1, 0, 1), 1, api.ErrMany},
		{"many rows, but no pairs", numbered(10*api.MaxRows+1, 0, 1), nil, 1, api.ErrMany},
		{"a product by one", numbered(1, 0, mostTimes/2+1), numbered(1, 0, 2), 1, api.ErrRange},
		{"a product by one, below", numbered(1, 0, mostTimes/2+1), numbered(1, 0, -2), 1, api.ErrRange},
		{"a product by little", numbered(1, 0, 1<<20), numbered(1, 0, 1<<20+1), 1, api.ErrRange},
		{"a product of 0 in 64 bits", great, great, 1, api.ErrRange},
		{"a product of 0 in 64 bits, below", numbered(1, 0, -mostTimes), great, 1, api.ErrRange},
		{"a product of 2^40 in 64 bits", numbered(1, 0, 1<<32+1), numbered(1, 0, 1<<40), 1, api.ErrRange},
		{"the last product", read("1*[1] 1099511627776*[2]"), read("1*[1] 2*[2]"), 1, api.ErrRange},
		{"a long row", long, long, 1, api.ErrMany},
		{"a product, though a row is long", api.Bag{{R: wide(16, sample.Int(0)), N: 1}, {R: wide(16, sample.Int(1)), N: mostTimes}}, api.Bag{{R: wide(16, sample.Int(0)), N: 1}, {R: wide(16, sample.Int(1)), N: -2}}, 1, api.ErrRange},
		{"a product, though there are many rows", append(numbered(100, -100, 1), great...), append(numbered(100, -100, 1), numbered(1, 0, 2)...), 0, api.ErrRange},
		{"products that come to nothing", append(numbered(1, 0, mostTimes), api.Count{R: row("[0,0]"), N: -mostTimes}), read("2*[0] 2*[0,0]"), 0, api.ErrRange},
		{"many rows", numbered(100, 0, 1), numbered(100, 0, 1), 0, api.ErrMany},
		{"many rows, one too often", append(read("1099511627776*[-1] 1099511627776*[-1,-1]"), numbered(100, 0, 1)...), append(read("1*[-1] 1*[-1,-1]"), numbered(100, 0, 1)...), 0, api.ErrMany},
		{"a row too often", read("1099511627776*[1] 1*[1,2]"), read("1*[2,3] 1*[3]"), 0, api.ErrRange},
		{"a row too often, then a long one", append(read("1099511627776*[1] 1099511627776*[1,1]"), api.Count{R: wide(29, sample.Int(2)), N: 1}), read("1*[1] 1*[1,1]"), 0, api.ErrRange},
		{"a long row, then one too often", append(api.Bag{{R: wide(29, sample.Int(0)), N: 1}}, read("1099511627776*[1] 1099511627776*[1,1]")...), read("1*[1] 1*[1,1]"), 0, api.ErrMany},
	} {
		got, e := Join(c.a, c.b, c.k)
		refuses(t, c.what, got, e, c.want)
	}
	for want, a := range wrongs() {
		for _, b := range wrongs() {
			got, e := Join(a, b, 1)
			refuses(t, "two wrong bags", got, e, want)
		}
		got, e := Join(a, great, 1)
		refuses(t, "a wrong first one", got, e, want)
		got, e = Join(great, a, 1)
		refuses(t, "a wrong second one", got, e, want)
		got, e = Join(nil, a, 1)
		refuses(t, "a wrong second one alone", got, e, want)
	}
}
