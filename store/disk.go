package store

import (
	"strings"

	"espalier/api"
	"espalier/code"
	"espalier/pack"
	"espalier/query"
	"espalier/txn"
)

// What a frame holds ends with a mark: so a record is never taken for another, nor for what is laid down. It stands last, as no frame begins with letters: what stands behind a record that lost its end would have to match a sum to make it whole.
const (
	markBase = "lay"
	markOps  = "ops"
	markText = "ask"
)

// changed is a store behind a commit, its disk left as it was.
func changed(s api.Store, l []api.Op) (out api.Store, made []int, at int, e api.Errno) {
	if s.G, made, at, e = txn.Apply(s.G, l); e != api.OK {
		return api.Store{}, nil, at, e
	}
	s.At++
	return s, made, 0, api.OK
}

// watched is a store with one question more, its disk left as it was.
func watched(s api.Store, text string) (api.Store, api.Errno) {
	if _, _, e := query.Parse(text); e != api.OK {
		return api.Store{}, e
	}
	if len(s.Text) >= api.MaxViews {
		return api.Store{}, api.ErrFull
	}
	s.Text = append(s.Text, text)
	return s, api.OK
}

// noted is a store with a record behind what waits.
func noted(s api.Store, mark, told string) (api.Store, api.Errno) {
	record, e := code.Frame(told + mark)
	if e != api.OK || len(s.Log.Safe)+len(s.Log.Wait)+len(record) > api.MaxDisk {
		return api.Store{}, api.ErrFull
	}
	s.Log.Wait += record
	return s, api.OK
}

// redone is a store behind all that a log says, up to the first record that can't be taken; used: how many bytes these take.
func redone(s api.Store, log string) (out api.Store, used int) {
	records, _, _ := code.Frames(log)
	for _, held := range records {
		next, whole := taken(s, held)
		if !whole {
			break
		}
		s = next
		used += code.HeadSize + len(held)
	}
	return s, used
}

// taken is a store behind what one record says; not whole: it is none, or can't be done.
func taken(s api.Store, held string) (out api.Store, whole bool) {
	if told, ok := strings.CutSuffix(held, markOps); ok {
		l, e := pack.OfOps(told)
		if e != api.OK {
			return api.Store{}, false
		}
		s, _, _, e = changed(s, l)
		return s, e == api.OK
	}
	if told, ok := strings.CutSuffix(held, markText); ok {
		s, e := watched(s, told)
		return s, e == api.OK
	}
	return api.Store{}, false
}

// laid is what is laid down of a store: At, how many questions there are, these, and the graph.
func laid(s api.Store) (string, api.Errno) {
	head := []api.Value{{Kind: api.Int, N: s.At}, {Kind: api.Int, N: len(s.Text)}}
	for _, text := range s.Text {
		head = append(head, api.Value{Kind: api.Text, S: text})
	}
	told := ""
	for _, v := range head {
		b, e := code.Bytes(v)
		if e != api.OK {
			return "", e
		}
		told += b
	}
	g, e := pack.Graph(s.G)
	if e != api.OK {
		return "", e
	}
	return code.Frame(told + g + markBase)
}

// ofLaid reads what laid tells. It doesn't look whether all of it is there, and nothing else: what laid tells otherwise, or not at all, isn't base.
func ofLaid(base string) (s api.Store, whole bool) {
	held, _, e := code.Frames(base)
	if e != api.OK || len(held) == 0 {
		return api.Store{}, false
	}
	r := &reader{rest: strings.TrimSuffix(held[0], markBase)}
	s.At = r.value().N
	for range r.value().N {
		if s, e = watched(s, r.value().S); e != api.OK {
			return api.Store{}, false
		}
	}
	if s.G, e = pack.OfGraph(r.rest); e != api.OK {
		return api.Store{}, false
	}
	again, e := laid(s)
	if e != api.OK || again != base {
		return api.Store{}, false
	}
	return s, true
}

// reader takes values off from the front.
type reader struct{ rest string }

// value is a zero one where there is none.
func (r *reader) value() api.Value {
	n, _ := code.Long(r.rest)
	v, _ := code.Value(r.rest[:n])
	r.rest = r.rest[n:]
	return v
}
