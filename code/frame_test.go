package code

import (
	"encoding/binary"
	"hash/crc32"
	"math/rand"
	"slices"
	"strings"
	"testing"

	"espalier/api"
)

// frameOf is a frame of whatever it is told, made by the library's means.
func frameOf(size, sum uint32, b string) string {
	out := binary.BigEndian.AppendUint32(nil, size)
	return string(binary.BigEndian.AppendUint32(out, sum)) + b
}

func rightFrame(b string) string {
	return frameOf(uint32(len(b)), crc32.ChecksumIEEE([]byte(b)), b)
}

func TestFrame(t *testing.T) {
	every := ""
	for c := range 256 {
		every += string([]byte{byte(c)})
	}
	for _, b := range []string{"a", "\x00", "\xff", "123456789", every, letters(256), letters(api.MaxDisk - 1), strings.Repeat("\xff", api.MaxDisk)} {
		if got, e := Frame(b); got != rightFrame(b) || e != api.OK {
			t.Errorf("%.40q: %.40q, %d", b, got, e)
		}
	}
	if got, e := Frame("123456789"); got != "\x00\x00\x00\x09\xcb\xf4\x39\x26123456789" || e != api.OK {
		t.Errorf("%q, %d", got, e)
	}
	if got, e := Frame(""); got != "" || e != api.ErrForm {
		t.Errorf("of nothing: %q, %d", got, e)
	}
	for _, n := range []int{api.MaxDisk + 1, 1 << 20} {
		if got, e := Frame(letters(n)); got != "" || e != api.ErrMany {
			t.Errorf("of %d bytes: %.40q, %d", n, got, e)
		}
	}
}

// holds tells whether Frames of b are want, and no more.
func holds(t *testing.T, what, b string, want ...string) {
	t.Helper()
	size := 0
	for _, x := range want {
		size += 8 + len(x)
	}
	if l, used, e := Frames(b); !slices.Equal(l, want) || used != size || e != api.OK {
		t.Errorf("%s: %.80q, %d, %d, want %.80q, %d", what, l, used, e, want, size)
	}
}

func TestFrames(t *testing.T) {
	one, two, full := rightFrame("one"), rightFrame("two"), letters(api.MaxDisk)
	holds(t, "nothing", "")
	holds(t, "one", one, "one")
	holds(t, "two", one+two, "one", "two")
	holds(t, "twice the same", one+one, "one", "one")
	holds(t, "the longest", rightFrame(full), full)
	holds(t, "the longest, and one", rightFrame(full)+one, full, "one")
	holds(t, "a frame within a frame", rightFrame(one), one)
	holds(t, "many", strings.Repeat(rightFrame("a"), 1777), slices.Repeat([]string{"a"}, 1777)...)
	half := letters(api.MaxDisk - 8)
	holds(t, "as many bytes as may be", rightFrame(half)+rightFrame(half), half, half)
}

func TestFramesStop(t *testing.T) {
	one, two := rightFrame("one"), rightFrame("two")
	over := letters(api.MaxDisk + 1)
	for what, bad := range map[string]string{
		"holds nothing":              frameOf(0, 0, ""),
		"too much":                   rightFrame(over),
		"a wrong sum":                frameOf(3, crc32.ChecksumIEEE([]byte("bad"))+1, "bad"),
		"another's sum":              frameOf(3, crc32.ChecksumIEEE([]byte("two")), "bad"),
		"a sum of no bits":           frameOf(3, 0, "bad"),
		"a byte too few":             frameOf(4, crc32.ChecksumIEEE([]byte("bad")), "bad"),
		"a byte too many":            frameOf(2, crc32.ChecksumIEEE([]byte("bad")), "bad"),
		"sum with lowest byte first": "\x00\x00\x00\x01\x43\xbe\xb7\xe8a",
		"the greatest size":          frameOf(1<<32-1, 0, "bad"),
		"a size that would be below": frameOf(1<<31, 0, "bad"),
		"noughts":                    strings.Repeat("\x00", 100),
		"text":                       letters(100),
	} {
		holds(t, what, bad)
		holds(t, what+", with one behind", bad+two)
		holds(t, what+", with one ahead", one+bad, "one")
		holds(t, what+", with one ahead and one behind", one+bad+two, "one")
	}
}

func TestFramesRefuses(t *testing.T) {
	half := letters(api.MaxDisk - 8)
	for _, b := range []string{
		rightFrame(half) + rightFrame(half) + "\x00",
		rightFrame(letters(api.MaxDisk)) + rightFrame(half),
		strings.Repeat("\x00", 2*api.MaxDisk+1),
		strings.Repeat("a", 1<<20),
	} {
		if l, used, e := Frames(b); len(l) != 0 || used != 0 || e != api.ErrMany {
			t.Errorf("%d bytes: %d frames, %d, %d", len(b), len(l), used, e)
		}
	}
	holds(t, "as many noughts as may be", strings.Repeat("\x00", 2*api.MaxDisk))
}

func TestFramesCutAnywhere(t *testing.T) {
	r := rand.New(rand.NewSource(1))
	for range 50 {
		b, held, ends := "", []string{}, []int{}
		for range 1 + r.Intn(4) {
			x := strings.Repeat(string([]byte{byte(r.Intn(256))}), 1+r.Intn(40))
			f, e := Frame(x)
			if e != api.OK {
				t.Fatal(e)
			}
			b, held = b+f, append(held, x)
			ends = append(ends, len(b))
		}
		whole := 0
		for n := range len(b) + 1 {
			if whole < len(ends) && n == ends[whole] {
				whole++
			}
			holds(t, "cut", b[:n], held[:whole]...)
		}
	}
}

// A bit that is turned makes its own frame wrong, and none ahead of it.
func TestFramesTurned(t *testing.T) {
	one, two, three := rightFrame("one"), rightFrame("the second one"), rightFrame("three")
	for i := range len(two) * 8 {
		bad := []byte(two)
		bad[i/8] ^= 1 << (i % 8)
		holds(t, "turned", one+string(bad)+three, "one")
	}
}
