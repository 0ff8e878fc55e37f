package code

import (
	"runtime/debug"
	"strings"
	"testing"

	"espalier/api"
	"espalier/value"
)

func TestBytes(t *testing.T) {
	for want, v := range written() {
		if got, e := Bytes(v); got != want || e != api.OK {
			t.Errorf("%.40v: %.40q, %d, want %.40q", v, got, e, want)
		}
	}
	if got, e := Bytes(api.Value{Kind: api.Int, L: []api.Value{}}); got != "\x02\x80\x00\x00\x00\x00\x00\x00\x00" || e != api.OK {
		t.Errorf("an Int with an empty list: %q, %d", got, e)
	}
}

func TestBytesRefuses(t *testing.T) {
	full := str(letters(api.MaxText))
	wide := num(1)
	for range api.MaxDeep {
		wide = list(wide, wide, wide, wide, wide, wide, wide, wide)
	}
	for _, c := range []struct {
		what string
		v    api.Value
		want api.Errno
	}{
		{"no such kind", api.Value{Kind: 5}, api.ErrForm},
		{"a kind below 0", api.Value{Kind: -1}, api.ErrForm},
		{"a kind whose lowest byte is one", api.Value{Kind: 256 + api.Int}, api.ErrForm},
		{"bool 2", api.Value{Kind: api.Bool, N: 2}, api.ErrForm},
		{"null with a number", api.Value{N: 1}, api.ErrForm},
		{"wrong UTF-8", str("\xff"), api.ErrForm},
		{"wrong within", list(null, list(str("\xff"))), api.ErrForm},
		{"too long a text", str(letters(api.MaxText + 1)), api.ErrMany},
		{"too many values", many(api.MaxList + 1), api.ErrMany},
		{"too deep", nest(list(), api.MaxDeep), api.ErrMany},
		{"much too deep", nest(null, 1000), api.ErrMany},
		{"a byte too much", list(full, str(letters(api.MaxDisk-2-4003-3+1))), api.ErrMany},
		{"a value too much", list(full, str(letters(api.MaxDisk-2-4003-3)), null), api.ErrMany},
		{"much too much", list(full, full, full, full), api.ErrMany},
		{"very many values", wide, api.ErrMany},
		{"Check ahead of too much", list(full, full, full, str("\xff")), api.ErrForm},
	} {
		if got, e := Bytes(c.v); got != "" || e != c.want {
			t.Errorf("%s: %d bytes, %d, want %d", c.what, len(got), e, c.want)
		}
	}
	if got, e := Bytes(list(full, str(letters(api.MaxDisk-2-4003-3)))); len(got) != api.MaxDisk || e != api.OK {
		t.Errorf("as many as may be: %d bytes, %d", len(got), e)
	}
}

func TestValue(t *testing.T) {
	for b, want := range written() {
		if got, e := Value(b); value.Order(got, want) != 0 || e != api.OK {
			t.Errorf("%.40q: %.40v, %d, want %.40v", b, got, e, want)
		}
		for _, more := range []string{"\x00", "\x05", "a", b} {
			if got, e := Value(b + more); value.Order(got, null) != 0 || e != api.ErrTorn && len(b+more) <= api.MaxDisk {
				t.Errorf("%.40q and %.40q: %.40v, %d", b, more, got, e)
			}
		}
		for n := range b {
			if got, e := Value(b[:n]); value.Order(got, null) != 0 || e != api.ErrTorn {
				t.Errorf("%.40q, cut at %d: %.40v, %d", b, n, got, e)
			}
		}
	}
	whole, _ := Bytes(list(str(letters(api.MaxText)), str(letters(api.MaxDisk-2-4003-3))))
	if v, e := Value(whole); len(whole) != api.MaxDisk || len(v.L) != 2 || e != api.OK {
		t.Errorf("the longest: %d values, %d", len(v.L), e)
	}
	for _, b := range []string{whole + "\x00", strings.Repeat("\x05", api.MaxDisk+1), strings.Repeat("\x00", 1<<20)} {
		if v, e := Value(b); value.Order(v, null) != 0 || e != api.ErrMany {
			t.Errorf("%d bytes: %.40v, %d", len(b), v, e)
		}
	}
}

func TestTorn(t *testing.T) {
	for _, b := range torn() {
		want := api.ErrTorn
		if len(b) > api.MaxDisk {
			want = api.ErrMany
		}
		if v, e := Value(b); value.Order(v, null) != 0 || e != want {
			t.Errorf("%.40q: %.40v, %d", b, v, e)
		}
		if n, ok := Long(b); n != 0 || ok {
			t.Errorf("%.40q: %d, %t", b, n, ok)
		}
	}
}

func TestLong(t *testing.T) {
	for b := range written() {
		for _, more := range append(torn(), "\x00", "\x00\x07", b) {
			if n, ok := Long(b + more); n != len(b) || !ok {
				t.Errorf("%.40q and %.40q: %d, %t, want %d", b, more, n, ok, len(b))
			}
		}
		for n := range b {
			if n, ok := Long(b[:n]); n != 0 || ok {
				t.Errorf("%.40q, cut: %d, %t", b, n, ok)
			}
		}
	}
}

func TestLongOfMuch(t *testing.T) {
	long := "\x04\x1e" + strings.Repeat("\x03\x0f\xa0"+letters(4000), 30)
	wide := "\x00"
	for range 4 {
		wide = "\x04\x1e" + strings.Repeat(wide, 30)
	}
	for _, b := range []string{long, wide} {
		if n, ok := Long(b + "\x07"); n != len(b) || !ok {
			t.Errorf("%d, %t, want %d", n, ok, len(b))
		}
		if n, ok := Long(b[:len(b)-1]); n != 0 || ok {
			t.Errorf("cut: %d, %t", n, ok)
		}
	}
	defer debug.SetMaxStack(debug.SetMaxStack(1 << 22))
	if n, ok := Long(strings.Repeat("\x04\x01", 1<<20)); n != 0 || ok {
		t.Errorf("deep: %d, %t", n, ok)
	}
}

// fill overwrites all lists within v, and the room behind them.
func fill(v api.Value, with api.Value) {
	for _, x := range v.L {
		fill(x, with)
	}
	l := v.L[:cap(v.L)]
	for i := range l {
		l[i] = with
	}
}

func TestValueSharesNothing(t *testing.T) {
	b, _ := Bytes(list(list(num(1), list()), list(num(1), list()), list()))
	v, e := Value(b)
	if e != api.OK {
		t.Fatal(e)
	}
	fill(v.L[0], str("filled"))
	fill(v.L[2], str("filled"))
	if want := list(num(1), list()); value.Order(v.L[1], want) != 0 {
		t.Errorf("%v, want %v", v.L[1], want)
	}
}
