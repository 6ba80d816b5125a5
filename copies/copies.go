// Package copies copies what of api has lists in it, so that what is handed out shares no memory with what is kept.
package copies

import (
	"slices"

	"henhouse/api"
)

// Req is q with a list of its own.
func Req(q api.Req) api.Req {
	q.Ops = slices.Clone(q.Ops)
	return q
}

// Resp is r with a list of its own.
func Resp(r api.Resp) api.Resp {
	r.Items = slices.Clone(r.Items)
	return r
}

// Event is e with lists of its own.
func Event(e api.Event) api.Event {
	e.Req, e.Resp = Req(e.Req), Resp(e.Resp)
	return e
}

// Events are those of l that are wanted, each with lists of its own.
func Events(l []api.Event, wanted func(api.Event) bool) []api.Event {
	var own []api.Event
	for _, e := range l {
		if wanted(e) {
			own = append(own, Event(e))
		}
	}
	return own
}
