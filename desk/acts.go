package desk

import (
	"cmp"
	"slices"

	"espalier/api"
	"espalier/ask"
	"espalier/guest"
	"espalier/live"
	"espalier/query"
	"espalier/store"
)

// act answers a request to a desk that is right, and makes it the one behind it. Lists of the desk are left as they are: those that change are laid anew. With an error the answer has nothing but E and At, and the desk is of no use any more.
type act func(d *api.Desk, r api.Request) api.Answer

func acts() map[int]act {
	return map[int]act{
		api.Commit: doCommit,
		api.Ask:    doAsk,
		api.Watch:  doWatch,
		api.Join:   doJoin,
		api.Take:   doTake,
		api.Crash:  doCrash,
	}
}

// next is the desk behind a request to one that is right, and the answer. With an error there is no such desk.
func next(d api.Desk, r api.Request) (api.Desk, api.Answer) {
	do, known := acts()[r.Kind]
	if !known {
		return api.Desk{}, api.Answer{E: api.ErrRange}
	}
	a := do(&d, r)
	if a.E != api.OK {
		return api.Desk{}, a
	}
	// What comes out must be right also where no chapter's call has an error for it: a question that can be read may be too long to be printed.
	if e := Check(d); e != api.OK {
		return api.Desk{}, api.Answer{E: e}
	}
	return d, a
}

func doCommit(d *api.Desk, r api.Request) api.Answer {
	s, made, at, e := store.Commit(d.S, r.Ops)
	if e != api.OK {
		return api.Answer{E: e, At: at}
	}
	if s, e = store.Sync(s); e != api.OK {
		return api.Answer{E: e}
	}
	differ, e := step(d, s.G)
	if e != api.OK {
		return api.Answer{E: e}
	}
	if e = tell(d, differ); e != api.OK {
		return api.Answer{E: e}
	}
	d.S = s
	return api.Answer{At: s.At, IDs: made}
}

// step makes the views those of another graph; of each, what differs in it.
func step(d *api.Desk, g api.Graph) (differ []api.Bag, e api.Errno) {
	var views []api.Hold
	for _, h := range d.Views {
		later, b, e := live.Step(h, d.S.G, g)
		if e != api.OK {
			return nil, e
		}
		views, differ = append(views, later), append(differ, b)
	}
	d.Views = views
	return differ, api.OK
}

// tell tells each guest what differs in its view.
func tell(d *api.Desk, differ []api.Bag) api.Errno {
	var guests []api.Guest
	for _, u := range d.Guests {
		u, e := guest.Tell(u, differ[u.View])
		if e != api.OK {
			return e
		}
		guests = append(guests, u)
	}
	d.Guests = guests
	return api.OK
}

func doAsk(d *api.Desk, r api.Request) api.Answer {
	b, at, e := ask.Text(r.Text, d.S.G)
	return api.Answer{E: e, At: at, Rows: b}
}

func doWatch(d *api.Desk, r api.Request) api.Answer {
	q, at, e := query.Parse(r.Text)
	if e != api.OK {
		return api.Answer{E: e, At: at}
	}
	h, e := live.Start(q, d.S.G)
	if e != api.OK {
		return api.Answer{E: e}
	}
	s, e := store.Watch(d.S, r.Text)
	if e != api.OK {
		return api.Answer{E: e}
	}
	if s, e = store.Sync(s); e != api.OK {
		return api.Answer{E: e}
	}
	d.S, d.Views = s, append(slices.Clip(d.Views), h)
	return api.Answer{At: len(d.Views) - 1}
}

func doJoin(d *api.Desk, r api.Request) api.Answer {
	if r.N < 0 || r.N >= len(d.Views) {
		return api.Answer{E: api.ErrWho}
	}
	if len(d.Guests) >= api.MaxGuests {
		return api.Answer{E: api.ErrFull}
	}
	d.Guests = append(slices.Clip(d.Guests), api.Guest{View: r.N, Fresh: true})
	return api.Answer{At: len(d.Guests) - 1}
}

func doTake(d *api.Desk, r api.Request) api.Answer {
	if r.N < 0 || r.N >= len(d.Guests) {
		return api.Answer{E: api.ErrWho}
	}
	u := d.Guests[r.N]
	all, e := live.Rows(d.Views[u.View], d.S.G)
	if e != api.OK {
		return api.Answer{E: e}
	}
	u, b, anew, e := guest.Take(u, all, d.S.At)
	if e != api.OK {
		return api.Answer{E: e}
	}
	d.Guests = slices.Clone(d.Guests)
	d.Guests[r.N] = u
	return api.Answer{At: d.S.At, Rows: b, Fresh: anew}
}

func doCrash(d *api.Desk, r api.Request) api.Answer {
	s, lost, e := store.Crash(d.S, r.N)
	if e != api.OK {
		return api.Answer{E: e}
	}
	var views []api.Hold
	for _, text := range s.Text {
		q, _, e := query.Parse(text)
		h, f := live.Start(q, s.G)
		if e = cmp.Or(e, f); e != api.OK {
			return api.Answer{E: e}
		}
		views = append(views, h)
	}
	var guests []api.Guest
	for _, u := range d.Guests {
		if u.View < len(views) {
			guests = append(guests, api.Guest{View: u.View, At: min(u.At, s.At), Fresh: true})
		}
	}
	d.S, d.Views, d.Guests = s, views, guests
	return api.Answer{At: lost}
}
