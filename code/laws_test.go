package code

import (
	"cmp"
	"math/rand"
	"strings"
	"testing"

	"espalier/api"
	"espalier/value"
)

func TestBytesAreReadAsTheyWere(t *testing.T) {
	r := rand.New(rand.NewSource(2))
	for range 5000 {
		v := randomValue(r, 0)
		b, e := Bytes(v)
		if e != api.OK {
			if e != api.ErrMany || value.Check(v) != api.OK {
				t.Errorf("%.80v: %d", v, e)
			}
			continue
		}
		if got, e := Value(b); value.Order(got, v) != 0 || e != api.OK {
			t.Errorf("%.80q: %.80v, %d, want %.80v", b, got, e, v)
		}
		if n, ok := Long(b + letters(r.Intn(3))); n != len(b) || !ok {
			t.Errorf("%.80q: %d, %t, want %d", b, n, ok, len(b))
		}
	}
}

// Each value has one row of bytes: whatever is read has just the bytes that it was read from, and Long agrees.
func TestReadHasItsBytes(t *testing.T) {
	pieces := []string{"\x00", "\x01", "\x02", "\x03", "\x04", "\x05", "\x80", "\xff", "a", "€", "\x80\x00\x00\x00\x00\x00\x00", "\x04\x01", "\x03\x00\x01", "\x7f\xff\xff\xff\xff\xff\xff\xff"}
	r := rand.New(rand.NewSource(3))
	read := 0
	for range 200000 {
		b := ""
		for range 1 + r.Intn(7) {
			b += pieces[r.Intn(len(pieces))]
		}
		n, ok := Long(b)
		if ok != (n > 0) || n > len(b) {
			t.Errorf("%q: %d, %t", b, n, ok)
		}
		v, e := Value(b)
		if (e == api.OK) != (ok && n == len(b)) {
			t.Errorf("%q: %v, %d, but %d, %t", b, v, e, n, ok)
		}
		if e != api.OK {
			if e != api.ErrTorn || value.Order(v, null) != 0 {
				t.Errorf("%q: %v, %d", b, v, e)
			}
			continue
		}
		read++
		if got, e := Bytes(v); got != b || e != api.OK {
			t.Errorf("%q: %q, %d", b, got, e)
		}
	}
	if read < 1000 {
		t.Errorf("only %d were read", read)
	}
}

func TestIntsStandInOrder(t *testing.T) {
	ints := []int{-1 << 63, -1<<63 + 1, -1 << 32, -257, -256, -255, -2, -1, 0, 1, 2, 127, 128, 255, 256, 1 << 31, 1 << 32, 1<<63 - 2, 1<<63 - 1}
	r := rand.New(rand.NewSource(4))
	for range 300 {
		ints = append(ints, int(r.Uint64())>>r.Intn(64))
	}
	for _, x := range ints {
		for _, y := range ints {
			a, _ := Bytes(num(x))
			b, _ := Bytes(num(y))
			if strings.Compare(a, b) != cmp.Compare(x, y) {
				t.Errorf("%d, %d: %q, %q", x, y, a, b)
			}
		}
	}
}
