package sample

import (
	"testing"

	"espalier/api"
	"espalier/desk"
	"espalier/query"
)

func TestQuestionsAreMostlyRight(t *testing.T) {
	s := New(18)
	texts, wrong := map[string]int{}, 0
	for range 3000 {
		text := s.Question()
		if _, _, e := query.Parse(text); e != api.OK {
			wrong++
		}
		texts[text]++
	}
	if len(texts) != 13 || wrong < 200 || wrong > 500 {
		t.Errorf("%v, %d wrong", texts, wrong)
	}
}

func TestMostRequestsGo(t *testing.T) {
	s := New(19)
	all, gone := map[int]int{}, map[int]int{}
	for range 60 {
		d := desk.New()
		for range 40 {
			r := s.Request(d.S.G, len(d.Views), len(d.Guests))
			out, _, e := desk.Do(d, r)
			if all[r.Kind]++; e == api.OK {
				gone[r.Kind]++
				d = out
			}
		}
	}
	for _, kind := range []int{api.Commit, api.Ask, api.Watch, api.Join, api.Take, api.Crash} {
		if gone[kind] < 40 || gone[kind] == all[kind] {
			t.Errorf("of kind %d: %d of %d go", kind, gone[kind], all[kind])
		}
	}
	if len(all) < 10 {
		t.Errorf("%v", all)
	}
}
