package promises

import (
	"cmp"
	"reflect"
	"slices"
	"testing"

	"espalier/api"
)

// hold makes a call, and tells what it breaks of the promises P1 to P3; its answers are told, too. at: a number may stand beside an error.
func hold(t *testing.T, name string, f any, at bool, args []reflect.Value) []reflect.Value {
	t.Helper()
	var given, before []reflect.Value
	for _, v := range args {
		v = roomy(v)
		given, before = append(given, v), append(before, roomy(v))
	}
	got := reflect.ValueOf(f).Call(given)
	for i, v := range given {
		if !untouched(v, before[i]) {
			t.Errorf("%s changes what it is handed: %v, was %v", name, v, before[i])
		}
	}
	again := reflect.ValueOf(f).Call(before)
	for i, v := range got {
		if !reflect.DeepEqual(v.Interface(), again[i].Interface()) {
			t.Errorf("%s of %v: %v, then %v", name, args, v, again[i])
		}
	}
	if apart := pieces(slices.Concat(given, got)); !disjoint(apart) {
		t.Errorf("%s of %v: lists share memory: %v", name, args, got)
	}
	if e, ok := got[len(got)-1].Interface().(api.Errno); ok && e != api.OK {
		for _, v := range got[:len(got)-1] {
			if !beside(v, e, at) {
				t.Errorf("%s of %v: %v with the error %d", name, args, v, e)
			}
		}
	}
	return got
}

// beside tells whether that may stand beside an error: the answer to a request tells it, too.
func beside(v reflect.Value, e api.Errno, at bool) bool {
	if a, ok := v.Interface().(api.Answer); ok && at {
		return v.IsZero() || reflect.DeepEqual(a, api.Answer{E: e, At: a.At})
	}
	return v.IsZero() || at && v.Kind() == reflect.Int
}

// roomy is v with all its lists in memory of their own, with marked room behind each of them.
func roomy(v reflect.Value) reflect.Value {
	out := reflect.New(v.Type()).Elem()
	out.Set(v)
	switch v.Kind() {
	case reflect.Struct:
		for i := range v.NumField() {
			out.Field(i).Set(roomy(v.Field(i)))
		}
	case reflect.Slice:
		n := v.Len()
		all := reflect.MakeSlice(v.Type(), n+2, n+2)
		for i := range n {
			all.Index(i).Set(roomy(v.Index(i)))
		}
		mark(all.Index(n))
		mark(all.Index(n + 1))
		out.Set(all.Slice(0, n))
	}
	return out
}

// mark lays something into v that no call is likely to lay there.
func mark(v reflect.Value) {
	switch v.Kind() {
	case reflect.Int:
		v.SetInt(7777)
	case reflect.String:
		v.SetString("room")
	case reflect.Struct:
		for i := range v.NumField() {
			mark(v.Field(i))
		}
	}
}

// untouched tells whether v is as it was, with the room behind its lists.
func untouched(v, was reflect.Value) bool {
	switch v.Kind() {
	case reflect.Struct:
		for i := range v.NumField() {
			if !untouched(v.Field(i), was.Field(i)) {
				return false
			}
		}
		return true
	case reflect.Slice:
		if v.Len() != was.Len() || v.Cap() != was.Cap() {
			return false
		}
		v, was = v.Slice(0, v.Cap()), was.Slice(0, was.Cap())
		for i := range v.Len() {
			if !untouched(v.Index(i), was.Index(i)) {
				return false
			}
		}
		return true
	}
	return reflect.DeepEqual(v.Interface(), was.Interface())
}

// piece of memory that a list has, with the room behind it.
type piece struct{ from, to uintptr }

func pieces(l []reflect.Value) []piece {
	var out []piece
	for _, v := range l {
		switch v.Kind() {
		case reflect.Struct:
			for i := range v.NumField() {
				out = append(out, pieces([]reflect.Value{v.Field(i)})...)
			}
		case reflect.Slice:
			if v.Cap() == 0 {
				continue
			}
			out = append(out, piece{v.Pointer(), v.Pointer() + uintptr(v.Cap())*v.Type().Elem().Size()})
			for i := range v.Len() {
				out = append(out, pieces([]reflect.Value{v.Index(i)})...)
			}
		}
	}
	return out
}

func disjoint(l []piece) bool {
	slices.SortFunc(l, func(a, b piece) int { return cmp.Compare(a.from, b.from) })
	for i := range l {
		if i > 0 && l[i-1].to > l[i].from {
			return false
		}
	}
	return true
}

// The watch itself must see what a call may not do.
func TestHoldSeesWhatIsBroken(t *testing.T) {
	list := reflect.ValueOf([][]int{{1}, {2}})
	v := roomy(list)
	l := v.Interface().([][]int)
	if !untouched(v, roomy(v)) || !disjoint(pieces([]reflect.Value{v, roomy(v)})) {
		t.Error("nothing is wrong")
	}
	was := roomy(v)
	_ = append(l[0], 3)
	if untouched(v, was) {
		t.Error("the room behind a list within a list is changed")
	}
	was = roomy(v)
	l[1][0] = 5
	if untouched(v, was) {
		t.Error("a list within a list is changed")
	}
	if disjoint(pieces([]reflect.Value{v, reflect.ValueOf(l[1])})) {
		t.Error("a list is handed out")
	}
	if disjoint(pieces([]reflect.Value{v, reflect.ValueOf(l[1][:0])})) {
		t.Error("the room behind a list is handed out")
	}
	if disjoint(pieces([]reflect.Value{reflect.ValueOf([][]int{l[0], l[0]})})) {
		t.Error("a list stands twice in an answer")
	}
	for _, c := range []struct {
		v       any
		at, may bool
	}{
		{0, false, true}, {1, false, false}, {1, true, true}, {"a", true, false}, {[]int{1}, true, false},
		{api.Answer{}, true, true},
		{api.Answer{E: api.ErrWho, At: 3}, true, true},
		{api.Answer{E: api.ErrWho, At: 3}, false, false},
		{api.Answer{E: api.ErrMay}, true, false},
		{api.Answer{E: api.ErrWho, Fresh: true}, true, false},
		{api.Answer{E: api.ErrWho, IDs: []int{1}}, true, false},
	} {
		if beside(reflect.ValueOf(c.v), api.ErrWho, c.at) != c.may {
			t.Errorf("%v beside an error, %v: not %v", c.v, c.at, c.may)
		}
	}
}
