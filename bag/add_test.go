package bag

import (
	"slices"
	"testing"

	"espalier/api"
	"espalier/sample"
)

func TestAdd(t *testing.T) {
	for _, c := range []struct {
		a, b string
		k    int
		want string
	}{
		{"", "", 1, ""},
		{"1*[1]", "", 5, "1*[1]"},
		{"", "1*[1]", 5, "5*[1]"},
		{"1*[1]", "1*[1]", 1, "2*[1]"},
		{"1*[1]", "1*[1]", -1, ""},
		{"3*[1]", "1*[1]", -3, ""},
		{"1*[1]", "7*[1]", 0, "1*[1]"},
		{"", "7*[1]", 0, ""},
		{"1*[1] 1*[3]", "1*[2] 1*[4]", 1, "1*[1] 1*[2] 1*[3] 1*[4]"},
		{"1*[3] 1*[4]", "2*[1] 2*[2]", -1, "-2*[1] -2*[2] 1*[3] 1*[4]"},
		{"1*[1] 2*[2] 3*[3]", "-1*[1] 1*[2] 3*[3]", 1, "3*[2] 6*[3]"},
		{"1*[1] 2*[2] 3*[3]", "-1*[1] 1*[2] 3*[3]", -2, "3*[1] -3*[3]"},
		{"1*[] 1*[null]", "1*[null,null] 1*[[null]]", 1, "1*[] 1*[null] 1*[null,null] 1*[[null]]"},
		{"1*[[null]]", "1*[[null]]", 1, "2*[[null]]"},
		{"1*['a']", "1*[1]", 1000, "1000*[1] 1*['a']"},
		{"1*['a']", "1*[1]", -1000, "-1000*[1] 1*['a']"},
		{"1099511627775*[1]", "1*[1]", 1, "1099511627776*[1]"},
		{"1099511627776*[1]", "1099511627776*[1]", -1, ""},
		{"1099511627776*[1]", "1099511627776*[1]", -2, "-1099511627776*[1]"},
		{"1099511627776*[1]", "-1099511627776*[1]", 2, "-1099511627776*[1]"},
	} {
		got, e := Add(read(c.a), read(c.b), c.k)
		tells(t, c.a+" and "+c.b, got, e, c.want)
	}
	got, e := Add(numbered(api.MaxRows, 0, 1), numbered(api.MaxRows, 0, 1), 1)
	tells(t, "the most rows", got, e, wrote(numbered(api.MaxRows, 0, 2)))
	got, e = Add(numbered(api.MaxRows, 1, 1), numbered(api.MaxRows, 0, 1), -1)
	tells(t, "the most rows but two go", got, e, "-1*[0] 1*[2000]")
}

func TestAddRefuses(t *testing.T) {
	great := numbered(1, 0, mostTimes)
	for _, c := range []struct {
		what string
		a, b api.Bag
		k    int
		want api.Errno
	}{
		{"above", make(api.Bag, 1), nil, 1001, api.ErrRange},
		{"below", nil, make(api.Bag, 1), -1001, api.ErrRange},
		{"the greatest number", nil, nil, 1<<63 - 1, api.ErrRange},
		{"the least number", nil, nil, -1 << 63, api.ErrRange},
		{"a row too often", great, read("1*[0]"), 1, api.ErrRange},
		{"a row too often, far", great, great, 1000, api.ErrRange},
		{"a row too often, of b alone", nil, great, -2, api.ErrRange},
		{"a row too seldom", great, great, -1000, api.ErrRange},
		{"a row too seldom by one", numbered(1, 0, -mostTimes), read("1*[0]"), -1, api.ErrRange},
		{"many rows", numbered(api.MaxRows, 0, 1), numbered(1, -1, 1), 1, api.ErrMany},
		{"many rows, one too often", numbered(api.MaxRows, 0, mostTimes), numbered(api.MaxRows, 1, 1), 1, api.ErrMany},
		{"many rows, none of them b's", numbered(api.MaxRows+1, 0, 1), nil, 0, api.ErrMany},
		{"many rows that are not counted", nil, numbered(api.MaxRows+1, 0, 1), 0, api.ErrMany},
	} {
		got, e := Add(c.a, c.b, c.k)
		refuses(t, c.what, got, e, c.want)
	}
	for want, a := range wrongs() {
		for _, b := range wrongs() {
			got, e := Add(a, b, 0)
			refuses(t, "two wrong bags", got, e, want)
		}
		got, e := Add(a, great, -2)
		refuses(t, "a wrong first one", got, e, want)
		got, e = Add(great, a, -2)
		refuses(t, "a wrong second one", got, e, want)
		got, e = Add(a, a, 1001)
		refuses(t, "wrong bags, too many times", got, e, api.ErrRange)
	}
}

func TestPick(t *testing.T) {
	for _, c := range []struct {
		b       string
		columns []int
		want    string
	}{
		{"", nil, ""},
		{"", []int{-1, 7, 1<<63 - 1}, ""},
		{"1*[1,3] 2*[2,1]", []int{1, 1}, "2*[1,1] 1*[3,3]"},
		{"1*[1,3] 2*[2,1]", []int{1, 0}, "2*[1,2] 1*[3,1]"},
		{"1*[1,3] 2*[2,1]", []int{0}, "1*[1] 2*[2]"},
		{"1*[1,3] 2*[2,1]", nil, "3*[]"},
		{"1*[1,3] -1*[2,1]", nil, ""},
		{"2*[]", []int{}, "2*[]"},
		{"1*[1,'a'] 2*[1,'b'] -3*[1,'c'] 4*[2,'a']", []int{0}, "4*[2]"},
		{"1*[1,'a'] 2*[1,'b'] -3*[1,'c'] 4*[2,'a']", []int{1}, "5*['a'] 2*['b'] -3*['c']"},
		{"1*[1] 1*[1,2] 1*[1,2,3]", []int{0, 0}, "3*[1,1]"},
		{"1*[null] 1*[null,1]", []int{0}, "2*[null]"},
		{"1*[1,[null]] 1*[2,[null]]", []int{1}, "2*[[null]]"},
		{"1099511627776*[1,1] 1*[1,2] -1*[1,3]", []int{0}, "1099511627776*[1]"},
		{"1099511627776*[1] -1099511627776*[2]", []int{}, ""},
	} {
		got, e := Pick(read(c.b), c.columns)
		tells(t, c.b, got, e, c.want)
	}
	got, e := Pick(read("1*[1,2]"), slices.Repeat([]int{1}, api.MaxList))
	tells(t, "the most columns", got, e, wrote(once(wide(api.MaxList, sample.Int(2)))))
	got, e = Pick(once(wide(api.MaxList, sample.Int(2))), []int{api.MaxList - 1, 0})
	tells(t, "the last column", got, e, "1*[2,2]")
	got, e = Pick(numbered(api.MaxRows, 0, 3), nil)
	tells(t, "the most rows", got, e, "6000*[]")
}

func TestPickRefuses(t *testing.T) {
	for _, c := range []struct {
		what    string
		b       api.Bag
		columns []int
		want    api.Errno
	}{
		{"many columns", read("1*[1]"), make([]int, api.MaxList+1), api.ErrMany},
		{"many columns of nothing", nil, make([]int, api.MaxList+1), api.ErrMany},
		{"many columns that there aren't", read("0*[]"), make([]int, api.MaxList+1), api.ErrMany},
		{"behind the last", read("1*[1,2]"), []int{0, 2}, api.ErrRange},
		{"ahead of the first", read("1*[1,2]"), []int{-1}, api.ErrRange},
		{"the least number", read("1*[1,2]"), []int{-1 << 63}, api.ErrRange},
		{"the greatest number", read("1*[1,2]"), []int{1<<63 - 1}, api.ErrRange},
		{"of the empty row", read("1*[]"), []int{0}, api.ErrRange},
		{"of one row", read("1*[1] 1*[1,2]"), []int{1}, api.ErrRange},
		{"of the last row", read("1*[1,2] 1*[2]"), []int{1}, api.ErrRange},
		{"of a wrong row", read("0*[1]"), []int{1}, api.ErrRange},
		{"of a row behind a wrong one", append(once(api.Row{sample.LongText(), {}}), api.Count{}), []int{1}, api.ErrRange},
		{"of a row behind too many", append(numbered(api.MaxRows, 0, 1), api.Count{}), []int{0}, api.ErrRange},
		{"many rows", numbered(api.MaxRows+1, 0, 1), []int{0}, api.ErrMany},
		{"many rows, one value", numbered(api.MaxRows+1, 0, 1), nil, api.ErrMany},
		{"a long row", once(wide(api.MaxList+1, sample.Int(1))), []int{api.MaxList}, api.ErrMany},
		{"a wrong value that isn't told", once(api.Row{{}, sample.WrongText()}), []int{0}, api.ErrForm},
		{"no times", read("0*[1]"), []int{0}, api.ErrForm},
		{"a row too often", read("1099511627776*[1,1] 1*[1,2]"), []int{0}, api.ErrRange},
		{"a row too seldom", read("-1099511627776*[1,1] -1*[1,2]"), []int{0}, api.ErrRange},
		{"a row far too often", numbered(api.MaxRows, 0, mostTimes), nil, api.ErrRange},
	} {
		got, e := Pick(c.b, c.columns)
		refuses(t, c.what, got, e, c.want)
	}
}

// What is too often on the way may not be so in the end; what is counted may stand in any order.
func TestTally(t *testing.T) {
	for _, c := range []struct{ counted, want string }{
		{"", ""},
		{"1*[2] 1*[1] 1*[2]", "1*[1] 2*[2]"},
		{"1*[1] 0*[2] -1*[1]", ""},
		{"1099511627776*[1] 1099511627776*[1] -1099511627776*[1]", "1099511627776*[1]"},
		{"1099511627777*[1] -1*[1] 1*[]", "1*[] 1099511627776*[1]"},
	} {
		got, e := Tally(func(count Counter) {
			for _, x := range read(c.counted) {
				count(x.R, x.N)
			}
		})
		tells(t, c.counted, got, e, c.want)
	}
	for _, want := range []api.Errno{api.ErrMany, api.ErrRange} {
		wrong := wrongs()[want][0]
		got, e := Tally(func(count Counter) { count(wrong.R, wrong.N) })
		refuses(t, "a wrong row", got, e, want)
	}
	one := row("[[1]]")
	got, _ := Tally(func(count Counter) { count(one, 1) })
	got[0].R[0].L[0] = sample.Int(2)
	if key(one) != "[[1]]" {
		t.Error("the answer shares memory with what was counted")
	}
}
