package value

import (
	"math/rand"
	"testing"

	"espalier/api"
)

func TestOrderIsAnOrder(t *testing.T) {
	l := append(some(), wrong()...)
	for _, a := range l {
		for _, b := range l {
			ab := Order(a, b)
			if ab != -Order(b, a) || (ab == 0) != alike(a, b) {
				t.Errorf("%v, %v: %d, %d", a, b, ab, Order(b, a))
			}
			for _, c := range l {
				if ab <= 0 && Order(b, c) <= 0 && Order(a, c) > 0 {
					t.Errorf("%v, %v, %v don't rise", a, b, c)
				}
			}
		}
	}
}

func agree(t *testing.T, a, b api.Value) {
	t.Helper()
	switch s := Same(a, b); s.Kind {
	case api.Null:
	case api.Bool:
		if (s.N == 1) != (Order(a, b) == 0) {
			t.Errorf("%v, %v: Same %v, Order %d", a, b, s, Order(a, b))
		}
	default:
		t.Errorf("%v, %v: Same %v", a, b, s)
	}
	if !alike(Same(a, b), Same(b, a)) {
		t.Errorf("%v, %v: not the same turned", a, b)
	}
}

func TestSameAgreesWithOrder(t *testing.T) {
	for _, a := range some() {
		for _, b := range some() {
			agree(t, a, b)
		}
	}
	r := rand.New(rand.NewSource(1))
	for range 5000 {
		a := randomValue(r, 3)
		agree(t, a, randomValue(r, 3))
		agree(t, a, clone(a))
	}
}

func TestPrintedIsReadAsItWas(t *testing.T) {
	r := rand.New(rand.NewSource(2))
	l := some()
	for range 5000 {
		l = append(l, randomValue(r, 0))
	}
	for _, v := range l {
		s, e := Print(v)
		if e != api.OK {
			t.Fatalf("%v: %d", v, e)
		}
		if got, at, e := Parse(s); e != api.OK || at != 0 || !alike(got, v) {
			t.Errorf("%q: %v, %d, %d, want %v", s, got, at, e, v)
		}
	}
}

// Each value is written in one way only: whatever is read prints as the text that it was.
func TestReadIsPrintedAsItWas(t *testing.T) {
	pieces := []string{"[", "]", ",", "'", `\`, "n", "1", "0", "-", "null", "true", "false", "a", "é", "\xff", "\n", " ", "[]", "'a'", "12", `\n`}
	r := rand.New(rand.NewSource(3))
	read := 0
	for range 200000 {
		s := ""
		for range 1 + r.Intn(7) {
			s += pieces[r.Intn(len(pieces))]
		}
		v, at, e := Parse(s)
		if e != api.OK {
			if e != api.ErrText || at < 0 || at > len(s) || !alike(v, null) {
				t.Errorf("%q: %v, %d, %d", s, v, at, e)
			}
			continue
		}
		read++
		if got, e := Print(v); got != s || e != api.OK {
			t.Errorf("%q: %q, %d", s, got, e)
		}
	}
	if read < 1000 {
		t.Errorf("only %d texts were read", read)
	}
}

func TestNothingPanics(t *testing.T) {
	l := append(some(), wrong()...)
	for _, a := range l {
		for _, b := range l {
			Same(a, b)
			Less(a, b)
			for _, sign := range []string{"+", "-", "*", "/", ""} {
				if v, e := Reckon(sign, a, b); e != api.OK && !alike(v, null) {
					t.Errorf("%v %q %v: %v with %d", a, sign, b, v, e)
				}
			}
		}
	}
}
