package store

import (
	"slices"
	"strings"
	"testing"

	"espalier/api"
	"espalier/query"
	"espalier/sample"
	"espalier/txn"
)

// moment is a store that was, and how long its log was then.
type moment struct {
	s    api.Store
	long int
}

// story is a store, and all that it was since it was laid down at last.
type story struct {
	t    *testing.T
	src  *sample.Source
	s    api.Store
	was  []moment
	seen map[string]int
}

func begin(t *testing.T, seed int) *story {
	return &story{t: t, src: sample.New(seed), s: New(), was: []moment{{New(), 0}}, seen: map[string]int{}}
}

// note keeps in mind what the store is now, behind one record more.
func (y *story) note(s api.Store) {
	y.s = right(y.t, s, api.OK)
	y.was = append(y.was, moment{s, len(log(s))})
}

// step does one thing more: most often a commit.
func (y *story) step() {
	y.t.Helper()
	switch k := y.src.Below(20); {
	case k < 11:
		y.commit()
	case k < 14:
		y.watch()
	case k < 17:
		y.s = synced(y.t, y.s)
		y.seen["sync"]++
	case k < 18:
		y.lay()
	default:
		y.crash()
	}
}

func (y *story) commit() {
	y.t.Helper()
	l := y.src.Ops(y.s.G, 5)
	g, made, at, e := txn.Apply(y.s.G, l)
	out, ids, where, f := Commit(y.s, l)
	if f == api.ErrFull && e == api.OK {
		y.seen["full"]++
		y.lay()
		return
	}
	if e != f || at != where || !slices.Equal(made, ids) {
		y.t.Fatalf("%v: %v, %d, %d, want %v, %d, %d", l, ids, where, f, made, at, e)
	}
	if e != api.OK {
		y.seen["refused"]++
		return
	}
	if !txn.Same(out.G, g) || out.At != y.s.At+1 || !slices.Equal(out.Text, y.s.Text) {
		y.t.Fatalf("%v: %s, was %s", l, told(out), told(y.s))
	}
	y.seen["commit"]++
	y.note(out)
}

func (y *story) watch() {
	y.t.Helper()
	text, e := query.Print(y.src.Query(2))
	if e != api.OK {
		return
	}
	out, e := Watch(y.s, text)
	if full := len(y.s.Text) == api.MaxViews || len(text) > left(y.s)-32; e == api.ErrFull && full {
		y.seen["full"]++
		return
	}
	if e != api.OK || plain(out) != plain(api.Store{G: y.s.G, At: y.s.At, Text: append(slices.Clone(y.s.Text), text)}) {
		y.t.Fatalf("%q: %s, %d, was %s", text, told(out), e, told(y.s))
	}
	y.seen["watch"]++
	y.note(out)
}

func (y *story) lay() {
	y.t.Helper()
	out, e := Lay(y.s)
	if e == api.ErrFull {
		y.seen["too much"]++
		y.s, y.was = New(), []moment{{New(), 0}}
		return
	}
	if plain(out) != plain(y.s) {
		y.t.Fatalf("%s, was %s", told(out), told(y.s))
	}
	y.s, y.was = right(y.t, out, e), []moment{{out, 0}}
	y.seen["lay"]++
}

// last is the last moment whose log is no longer than that.
func (y *story) last(long int) int {
	i := len(y.was) - 1
	for y.was[i].long > long {
		i--
	}
	return i
}

// crash is what was, all that was safe within it, and goes on from there.
func (y *story) crash() {
	y.t.Helper()
	n := y.src.Below(len(y.s.Log.Wait) + 1)
	out, lost, e := Crash(y.s, n)
	came := len(y.s.Log.Safe) + n
	i := y.last(came)
	want := y.was[i]
	if plain(out) != plain(want.s) || lost != came-want.long || e != api.OK || want.long < len(y.s.Log.Safe) || out.Log != (api.Disk{Safe: log(y.s)[:want.long]}) {
		y.t.Fatalf("%d of %s: %s, %d, %d, want %s", n, told(y.s), told(out), lost, e, told(want.s))
	}
	again, lost, e := Crash(right(y.t, out, e), 0)
	if told(again) != told(out) || lost != 0 || e != api.OK {
		y.t.Fatalf("again: %s, %d, %d, want %s", told(again), lost, e, told(out))
	}
	y.seen["crash"]++
	if i < len(y.was)-1 {
		y.seen["lost"]++
	}
	y.s, y.was = out, y.was[:i+1]
}

func TestAStoreThatCrashedIsOneThatWas(t *testing.T) {
	seen := map[string]int{}
	for seed := range 120 {
		y := begin(t, 1500+seed)
		for range 60 {
			y.step()
		}
		for k, n := range y.seen {
			seen[k] += n
		}
	}
	for k, least := range map[string]int{"commit": 1000, "refused": 500, "watch": 300, "sync": 300, "lay": 100, "crash": 300, "lost": 100, "full": 50} {
		if seen[k] < least {
			t.Errorf("%s: %d", k, seen[k])
		}
	}
}

// tale is a story without crashes, nothing of it laid down.
func tale(t *testing.T, seed, steps int) *story {
	y := begin(t, seed)
	for range steps {
		if y.src.Below(4) == 0 {
			y.watch()
		} else {
			y.commit()
		}
	}
	return y
}

// Cut anywhere, a log tells all that is whole ahead of the cut.
func TestLogsCutAnywhere(t *testing.T) {
	for seed := range 8 {
		y := tale(t, 1700+seed, 12)
		all := log(y.s)
		for n := range len(all) + 1 {
			m := y.was[y.last(n)]
			recovered(t, "cut", "", all[:n], m.s, m.long)
			if n%7 == 0 {
				half := y.s
				half.Log = api.Disk{Safe: all[:n], Wait: all[n:]}
				out, lost, e := Crash(half, 0)
				if plain(out) != plain(m.s) || lost != n-m.long || e != api.OK {
					t.Errorf("%d: %s, %d, %d, want %s", n, told(out), lost, e, told(m.s))
				}
			}
		}
	}
}

// A byte that is spoilt takes its record, and all behind it; nothing ahead of it.
func TestLogsSpoiltAnywhere(t *testing.T) {
	for seed := range 8 {
		y := tale(t, 1800+seed, 10)
		all := log(y.s)
		for i := range len(all) {
			m := y.was[y.last(i)]
			bad := []byte(all)
			bad[i] ^= byte(1 + y.src.Below(255))
			recovered(t, "spoilt", "", string(bad), m.s, m.long)
		}
	}
}

// What stands behind a record that was cut never makes it whole: neither noughts nor other records, nor the same one again.
func TestNothingMakesACutRecordWhole(t *testing.T) {
	for seed := range 8 {
		y := tale(t, 1850+seed, 6)
		all := log(y.s)
		for i := range len(all) {
			m := y.was[y.last(i)]
			if m.long == i {
				continue
			}
			for _, behind := range []string{all, all[m.long:], framed(t, "\x00", markOps), strings.Repeat("\x00", 20), strings.Repeat("\xff", 20)} {
				recovered(t, "cut, and more behind", "", all[:i]+behind, m.s, m.long)
			}
		}
	}
}

// A log behind another base than its own is read as far as it goes there, and Check finds what is left right.
func TestLogsBehindOtherBases(t *testing.T) {
	short, whole := 0, 0
	for seed := range 60 {
		a, b := tale(t, 1900+seed, 6), tale(t, 2000+seed, 8)
		base, all := lay(t, a.s).Base, log(b.s)
		s, lost, e := Recover(base, all)
		if right(t, s, e); s.Base != base || s.Log != (api.Disk{Safe: all[:len(all)-lost]}) {
			t.Errorf("%s, %d", told(s), lost)
		}
		again, none, e := Recover(base, s.Log.Safe)
		if told(again) != told(s) || none != 0 || e != api.OK {
			t.Errorf("%s, %d, %d, want %s", told(again), none, e, told(s))
		}
		if lost > 0 {
			short++
		} else {
			whole++
		}
	}
	if short < 5 || whole < 5 {
		t.Errorf("%d are cut, %d whole", short, whole)
	}
}
