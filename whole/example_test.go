package whole

import (
	"testing"

	"henhouse/api"
	"henhouse/server"
)

// ask lets a connection ask, and go on till it can't any more.
func ask(t *testing.T, s *server.Server, conn int, q api.Req) []api.Resp {
	t.Helper()
	s.Send(conn, framed(t, q))
	for s.Pick(conn) {
	}
	return answers(t, s.Take(conn, 1<<20))
}

func told(t *testing.T, l []api.Resp, want api.Resp) {
	t.Helper()
	if len(l) != 1 || !same(l[0], want) {
		t.Errorf("%+v, not %+v", l, want)
	}
}

// The examples that show the whole.
func TestExamples(t *testing.T) {
	s := made(t, conf())
	for i := range 2 {
		s.Open()
		told(t, ask(t, s, i, api.Req{Kind: api.Hello, Tenant: "ann"}), api.Resp{Kind: api.Hello})
	}
	put := api.Req{Kind: api.Put, Col: "home", UID: "a", Card: "name:Ann\n", Cond: api.Cond{Kind: api.Absent}}
	told(t, ask(t, s, 0, api.Req{Kind: api.Create, Col: "home"}), api.Resp{Kind: api.Create, Token: 1})
	told(t, ask(t, s, 0, put), api.Resp{Kind: api.Put, Token: 2, Version: 2})
	told(t, ask(t, s, 0, put), api.Resp{Kind: api.Put, Err: api.ErrCond})

	batch := api.Req{Kind: api.Batch, Col: "home", Ops: []api.Op{{UID: "b", Card: "name:Bob\n"}, {Del: true, UID: "c"}}}
	told(t, ask(t, s, 0, batch), api.Resp{Kind: api.Batch, Err: api.ErrNone, Index: 1})
	told(t, ask(t, s, 0, api.Req{Kind: api.Get, Col: "home", UID: "b"}), api.Resp{Kind: api.Get, Err: api.ErrNone})

	if l := ask(t, s, 1, api.Req{Kind: api.Wait, Col: "home", Token: 2, Ticks: 9}); len(l) != 0 {
		t.Errorf("a Wait is answered at once: %+v", l)
	}
	put.UID = "b"
	told(t, ask(t, s, 0, put), api.Resp{Kind: api.Put, Token: 3, Version: 3})
	for s.Pick(1) {
	}
	told(t, answers(t, s.Take(1, 99)), api.Resp{Kind: api.Wait, Token: 3})
}
