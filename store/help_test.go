package store

import (
	"fmt"
	"strings"
	"testing"

	"espalier/api"
	"espalier/code"
	"espalier/fresh"
	"espalier/sample"
)

// Short names of what these tests say again and again.
var (
	num, str, prop, props = sample.Int, sample.Text, sample.Prop, sample.Props
	wrongText             = sample.WrongText
)

// question is one that is right.
const question = "match (a) return a as n"

func letters(n int) string { return strings.Repeat("a", n) }

// told is a store as a text that no other has: lists that have nothing in them are the same.
func told(s api.Store) string { return fmt.Sprintf("%#v", fresh.Store(s)) }

// plain is told but for the disk.
func plain(s api.Store) string { return told(api.Store{G: s.G, At: s.At, Text: s.Text}) }

// log is all of a store's log.
func log(s api.Store) string { return s.Log.Safe + s.Log.Wait }

func addNode() api.Op { return api.Op{Kind: api.AddNode} }

// set makes the property of that name of node 1 a text of so many letters.
func set(name string, n int) api.Op {
	return api.Op{Kind: api.Set, ID: 1, Name: name, Value: str(letters(n))}
}

// long is a question of so many bytes.
func long(n int) string { return question + strings.Repeat(" ", n-len(question)) }

// right tells a store that must be so.
func right(t *testing.T, s api.Store, e api.Errno) api.Store {
	t.Helper()
	if e != api.OK {
		t.Fatalf("error %d", e)
	}
	if e := Check(s); e != api.OK {
		t.Fatalf("%.500s: %d", told(s), e)
	}
	return s
}

func commit(t *testing.T, s api.Store, l ...api.Op) api.Store {
	t.Helper()
	out, _, at, e := Commit(s, l)
	if at != 0 {
		t.Errorf("at %d", at)
	}
	return right(t, out, e)
}

func watch(t *testing.T, s api.Store, text string) api.Store {
	t.Helper()
	out, e := Watch(s, text)
	return right(t, out, e)
}

func synced(t *testing.T, s api.Store) api.Store {
	t.Helper()
	out, e := Sync(s)
	return right(t, out, e)
}

func lay(t *testing.T, s api.Store) api.Store {
	t.Helper()
	out, e := Lay(s)
	return right(t, out, e)
}

// some is a store with all that a store can have: what is laid down, what is safe, what waits, questions in each of these.
func some(t *testing.T) api.Store {
	t.Helper()
	s := commit(t, New(), api.Op{Kind: api.AddNode, Labels: []string{"Person"}, Props: props(prop("age", num(7)))}, addNode())
	s = lay(t, watch(t, s, question))
	s = commit(t, s, api.Op{Kind: api.AddEdge, From: 1, To: 2, Name: "KNOWS"})
	s = synced(t, watch(t, s, "match (a:Person) return count(a) as n"))
	s = commit(t, s, api.Op{Kind: api.Tag, ID: 2, Name: "Dog"})
	return watch(t, commit(t, s), "match (a)-[*]->(b) return distinct id(a) as a")
}

// framed is a frame of these, whether they make a record or not.
func framed(t *testing.T, l ...string) string {
	t.Helper()
	b, e := code.Frame(strings.Join(l, ""))
	if e != api.OK {
		t.Fatalf("%q: %d", l, e)
	}
	return b
}

// valueBytes are those of a value that must be right.
func valueBytes(t *testing.T, v api.Value) string {
	t.Helper()
	b, e := code.Bytes(v)
	if e != api.OK {
		t.Fatalf("%v: %d", v, e)
	}
	return b
}

// recovered tells whether of base and log a store is left that is as want but for its disk, with the log's first so many bytes.
func recovered(t *testing.T, what, base, log string, want api.Store, used int) {
	t.Helper()
	want.Base, want.Log = base, api.Disk{Safe: log[:used]}
	s, lost, e := Recover(base, log)
	if told(s) != told(want) || lost != len(log)-used || e != api.OK {
		t.Errorf("%s: %.500s, %d, %d, want %.500s, %d", what, told(s), lost, e, told(want), len(log)-used)
	}
}

// torn tells whether base is none.
func torn(t *testing.T, what, base string) {
	t.Helper()
	for _, log := range []string{"", "x", framed(t, "\x00", markOps)} {
		if s, lost, e := Recover(base, log); told(s) != told(api.Store{}) || lost != 0 || e != api.ErrTorn {
			t.Errorf("%s: %.500s, %d, %d", what, told(s), lost, e)
		}
	}
}
