package server

import (
	"math"
	"reflect"
	"slices"
	"strconv"
	"strings"
	"testing"

	"henhouse/api"
	"henhouse/frame"
	"henhouse/req"
	"henhouse/resp"
)

const ann = "name:Ann\n"

func conf() api.Conf {
	return api.Conf{Conns: 3, Room: api.MaxFrame + 6, Shards: 2, Quota: api.Quota{Cols: 4, Cards: 16, Bytes: 20000, Log: 64}}
}

func made(t *testing.T, c api.Conf) *Server {
	t.Helper()
	s, e := New(c)
	if e != api.OK || s == nil {
		t.Fatalf("P29.1: New: %d", e)
	}
	return s
}

func open(t *testing.T, s *Server) int {
	t.Helper()
	id, e := s.Open()
	if e != api.OK || s.State(id) != Idle || s.Can(id) || s.Pick(id) {
		t.Fatalf("P29.1: Open: %d, %d", id, e)
	}
	return id
}

func raw(kind int, body string) string {
	b, _ := frame.Put(nil, frame.Frame{Kind: kind, Body: body})
	return string(b)
}

func framed(t *testing.T, q api.Req) string {
	t.Helper()
	b, e := req.Encode(q)
	if e != api.OK {
		t.Fatalf("%+v: %d", q, e)
	}
	return raw(q.Kind, string(b))
}

func answer(t *testing.T, a api.Resp) string {
	t.Helper()
	b, e := resp.Encode(a)
	if e != api.OK {
		t.Fatalf("%+v: %d", a, e)
	}
	return raw(128+a.Kind, string(b))
}

func send(t *testing.T, s *Server, id int, b string) {
	t.Helper()
	if !s.Send(id, b) {
		t.Fatalf("P29.1: Send of %d bytes", len(b))
	}
}

// picks lets a connection go n steps, behind which it is at that state.
func picks(t *testing.T, s *Server, id, n, state int) {
	t.Helper()
	for i := range n {
		if !s.Can(id) || !s.Pick(id) {
			t.Fatalf("P29.2: step %d of %d is not gone", i+1, n)
		}
	}
	if s.State(id) != state {
		t.Errorf("P29.2: state %d, not %d", s.State(id), state)
	}
}

func stuck(t *testing.T, s *Server, id, state int) {
	t.Helper()
	ahead := s.Events()
	if s.Can(id) || s.Pick(id) || s.State(id) != state || slices.Contains(s.Runnable(), id) || !reflect.DeepEqual(ahead, s.Events()) {
		t.Errorf("P29.2: connection %d goes at state %d", id, s.State(id))
	}
}

func hello(name string) api.Req { return api.Req{Kind: api.Hello, Tenant: name} }

// greeted opens a connection that is bound to a tenant.
func greeted(t *testing.T, s *Server, tenant string) int {
	t.Helper()
	id := open(t, s)
	asks(t, s, id, hello(tenant), 2, api.Resp{})
	return id
}

// asks sends a request, goes n steps, and looks at the bytes that are answered.
func asks(t *testing.T, s *Server, id int, q api.Req, n int, want api.Resp) {
	t.Helper()
	send(t, s, id, framed(t, q))
	state := Idle
	if q.Kind == api.Bye {
		state = Ended
	}
	picks(t, s, id, n, state)
	want.Kind = q.Kind
	if b := s.Take(id, 1<<20); b != answer(t, want) {
		t.Errorf("P29.2: %+v: %q, not %q", q, b, answer(t, want))
	}
}

func put(uid string) api.Req {
	return api.Req{Kind: api.Put, Col: "home", UID: uid, Card: ann}
}

func TestNewAndOpen(t *testing.T) {
	c := conf()
	c.Conns = 0
	if s, e := New(c); s != nil || e != api.ErrRange {
		t.Errorf("P29.1: New: %d", e)
	}
	s := made(t, conf())
	for i := range 3 {
		if id := open(t, s); id != i {
			t.Errorf("P29.1: number %d, not %d", id, i)
		}
	}
	if id, e := s.Open(); id != 0 || e != api.ErrQuota {
		t.Errorf("P29.1: Open: %d, %d", id, e)
	}
	// One who has ended makes place for another one, with a number of its own.
	s.Half(1)
	picks(t, s, 1, 1, Ended)
	if id := open(t, s); id != 3 {
		t.Errorf("P29.1: number %d, not 3", id)
	}
	if _, e := s.Open(); e != api.ErrQuota {
		t.Errorf("P29.1: Open: %d", e)
	}
	s.Stop()
	if id, e := s.Open(); id != 0 || e != api.ErrClosed {
		t.Errorf("P29.1: Open behind Stop: %d, %d", id, e)
	}
	if len(s.Events()) != 0 {
		t.Error("P29.2: events of nothing")
	}
}

func TestNoSuchConnection(t *testing.T) {
	s := made(t, conf())
	open(t, s)
	for _, id := range []int{-1, 1, math.MinInt, math.MaxInt} {
		if s.Send(id, "x") || s.Half(id) || s.Take(id, 9) != "" || s.Pick(id) || s.Can(id) || s.State(id) != 0 {
			t.Errorf("P29.1, P29.2: connection %d", id)
		}
	}
}

func TestHelloAndEvents(t *testing.T) {
	s := made(t, conf())
	open(t, s)
	id := open(t, s)
	q := hello("ann")
	b := framed(t, q)
	send(t, s, id, b[:4])
	stuck(t, s, id, Idle)
	send(t, s, id, b[4:])
	if !slices.Equal(s.Runnable(), []int{1}) {
		t.Errorf("P29.2: Runnable: %v", s.Runnable())
	}
	picks(t, s, id, 1, Answers)
	if s.Take(id, 99) != "" {
		t.Error("P29.2: an answer ahead of its step")
	}
	picks(t, s, id, 1, Idle)
	a := answer(t, api.Resp{Kind: api.Hello})
	if x, y, z := s.Take(id, 3), s.Take(id, 0), s.Take(id, 99); x+y+z != a || len(x) != 3 || y != "" {
		t.Errorf("P29.1: Take: %q, %q, %q", x, y, z)
	}
	one := api.Event{Conn: 1, Seq: 1, Tenant: "ann", Req: q}
	want := []api.Event{one, one, one}
	for i, k := range []int{api.Invoked, api.Committed, api.Answered} {
		want[i].Kind = k
		if k != api.Invoked {
			want[i].Resp.Kind = api.Hello
		}
	}
	if !reflect.DeepEqual(s.Events(), want) {
		t.Errorf("P29.2: %+v", s.Events())
	}
}

func TestWrongAndBroken(t *testing.T) {
	s := made(t, conf())
	id := open(t, s)
	send(t, s, id, framed(t, put("u"))+raw(77, "zz"))
	picks(t, s, id, 1, Answers)
	picks(t, s, id, 1, Idle)
	picks(t, s, id, 2, Idle)
	send(t, s, id, framed(t, hello("ann"))+raw(api.Hello, "\x03bob"))
	picks(t, s, id, 4, Idle)
	send(t, s, id, "\xff\xff\xff\x00"+framed(t, put("u")))
	picks(t, s, id, 1, Answers)
	picks(t, s, id, 1, Ended)
	stuck(t, s, id, Ended)
	want := answer(t, resp.Bad(api.Put, api.ErrState)) + answer(t, resp.Bad(0, api.ErrRange)) + answer(t, api.Resp{Kind: api.Hello}) + answer(t, resp.Bad(api.Hello, api.ErrState)) + answer(t, resp.Bad(0, api.ErrLong))
	if b := s.Take(id, 999); b != want {
		t.Errorf("P29.2: %q, not %q", b, want)
	}
	ev := func(kind, seq int, tenant string, q api.Req, a api.Resp) api.Event {
		if kind == api.Invoked {
			a = api.Resp{}
		}
		return api.Event{Kind: kind, Seq: seq, Tenant: tenant, Req: q, Resp: a}
	}
	var events []api.Event
	for seq, x := range []struct {
		tenant string
		q      api.Req
		e      api.Errno
		kinds  []int
	}{
		{"", api.Req{Kind: api.Put}, api.ErrState, []int{1, 3}},
		{"", api.Req{}, api.ErrRange, []int{1, 3}},
		{"ann", hello("ann"), api.OK, []int{1, 2, 3}},
		{"ann", api.Req{Kind: api.Hello}, api.ErrState, []int{1, 3}},
		{"ann", api.Req{}, api.ErrLong, []int{1, 3}},
	} {
		for _, k := range x.kinds {
			events = append(events, ev(k, seq+1, x.tenant, x.q, resp.Bad(x.q.Kind, x.e)))
		}
	}
	if !reflect.DeepEqual(s.Events(), events) {
		t.Errorf("P29.2: %+v", s.Events())
	}
	if s.Send(id, "x") || s.Half(id) {
		t.Error("P29.1: Send, Half of one that has ended")
	}
}

func TestByeAndHalf(t *testing.T) {
	s := made(t, conf())
	id := greeted(t, s, "ann")
	send(t, s, id, framed(t, api.Req{Kind: api.Bye})+framed(t, put("u")))
	picks(t, s, id, 1, Answers)
	picks(t, s, id, 1, Ended)
	if b := s.Take(id, 99); b != answer(t, api.Resp{Kind: api.Bye}) {
		t.Errorf("P29.2: %q", b)
	}
	l := s.Events()
	if len(l) != 6 || l[4].Kind != api.Committed || l[4].Req.Kind != api.Bye || l[4].Seq != 2 || l[4].Tenant != "ann" {
		t.Errorf("P29.2: %+v", l)
	}
	id = open(t, s)
	send(t, s, id, framed(t, hello("ann")))
	if !s.Half(id) || !s.Half(id) || s.Send(id, "x") {
		t.Error("P29.1: Half")
	}
	picks(t, s, id, 2, Idle)
	picks(t, s, id, 1, Ended)
	if s.Take(id, 99) == "" {
		t.Error("P29.1: Take of one that has ended")
	}
}

func TestRequests(t *testing.T) {
	s := made(t, conf())
	id := greeted(t, s, "ann")
	asks(t, s, id, put("u"), 3, api.Resp{Err: api.ErrNone})
	asks(t, s, id, api.Req{Kind: api.Create, Col: "home"}, 3, api.Resp{Token: 1})
	asks(t, s, id, put("u"), 6, api.Resp{Token: 2, Version: 2})
	asks(t, s, id, api.Req{Kind: api.Get, Col: "home", UID: "u"}, 6, api.Resp{Version: 2, Card: ann})
	asks(t, s, id, api.Req{Kind: api.Batch, Col: "home", Ops: []api.Op{{UID: "b", Card: ann}, {Del: true, UID: "c"}}}, 6, api.Resp{Err: api.ErrNone, Index: 1})
	asks(t, s, id, api.Req{Kind: api.Batch, Col: "home", Ops: []api.Op{{UID: "b", Card: ann}, {Del: true, UID: "u"}}}, 8, api.Resp{Token: 3})
	asks(t, s, id, api.Req{Kind: api.Delta, Col: "home", Token: 1, Most: 9}, 7, api.Resp{Token: 3, Items: []api.Item{{UID: "b", Version: 3, Card: ann}, {UID: "u", Version: 3, Gone: true}}})
	asks(t, s, id, api.Req{Kind: api.List}, 3, api.Resp{Items: []api.Item{{UID: "home", Version: 3}}})
	asks(t, s, id, api.Req{Kind: api.Wait, Col: "home", Token: 3}, 6, api.Resp{Err: api.ErrTimeout})
	asks(t, s, id, api.Req{Kind: api.Drop, Col: "home"}, 6, api.Resp{Token: 4})
	asks(t, s, id, api.Req{Kind: api.Bye}, 2, api.Resp{})
	for i, e := range s.Events() {
		if e.Seq != i/3+1 || e.Kind != i%3+1 || e.Tenant != "ann" {
			t.Fatalf("P29.2: event %d: %+v", i, e)
		}
	}
}

// The point of a request is told as soon as it is there, ahead of its end.
func TestCommittedAtThePoint(t *testing.T) {
	s := made(t, conf())
	id := greeted(t, s, "ann")
	asks(t, s, id, api.Req{Kind: api.Create, Col: "home"}, 3, api.Resp{Token: 1})
	send(t, s, id, framed(t, put("u")))
	picks(t, s, id, 3, Busy)
	n := len(s.Events())
	picks(t, s, id, 1, Busy)
	l := s.Events()
	if len(l) != n+1 || l[n].Kind != api.Committed || l[n].Resp.Token != 2 {
		t.Errorf("P29.2: %+v", l[n:])
	}
	picks(t, s, id, 1, Answers)
	if len(s.Events()) != n+1 {
		t.Error("P29.2: a second point")
	}
	picks(t, s, id, 1, Idle)
	if l := s.Events(); len(l) != n+2 || l[n+1].Kind != api.Answered || l[n+1].Resp.Token != 2 {
		t.Errorf("P29.2: %+v", l[n:])
	}
}

func TestAnswersNeedRoom(t *testing.T) {
	s := made(t, conf())
	id := greeted(t, s, "ann")
	asks(t, s, id, api.Req{Kind: api.Create, Col: "home"}, 3, api.Resp{Token: 1})
	long := put("u")
	long.Card = "name:A\n"
	for i := range 11 {
		long.Card += "note:" + strconv.Itoa(10+i) + strings.Repeat("x", 60) + "\n"
	}
	asks(t, s, id, long, 6, api.Resp{Token: 2, Version: 2})
	get := api.Req{Kind: api.Get, Col: "home", UID: "u"}
	one := answer(t, api.Resp{Kind: api.Get, Version: 2, Card: long.Card})
	fit := (api.MaxFrame + 6) / len(one)
	for range fit {
		send(t, s, id, framed(t, get))
		picks(t, s, id, 6, Idle)
	}
	send(t, s, id, framed(t, get))
	picks(t, s, id, 5, Answers)
	stuck(t, s, id, Answers)
	need := len(one) - (api.MaxFrame + 6 - fit*len(one))
	s.Take(id, need-1)
	stuck(t, s, id, Answers)
	s.Take(id, 1)
	picks(t, s, id, 1, Idle)
	if b := s.Take(id, 1<<20); !strings.HasSuffix(b, one+one) || len(b) != (fit+1)*len(one)-need {
		t.Errorf("P29.1: %d bytes", len(b))
	}
}

func TestSendNeedsRoom(t *testing.T) {
	s := made(t, conf())
	id := open(t, s)
	if s.Send(id, strings.Repeat("x", api.MaxFrame+7)) || !s.Send(id, strings.Repeat("\x00", api.MaxFrame+6)) || s.Send(id, "x") || !s.Send(id, "") {
		t.Error("P29.1: Send beyond the room")
	}
}

func waiting(t *testing.T, s *Server, id int, token int64, ticks int) {
	t.Helper()
	send(t, s, id, framed(t, api.Req{Kind: api.Wait, Col: "home", Token: token, Ticks: ticks}))
	picks(t, s, id, 5, Busy)
	stuck(t, s, id, Busy)
}

func TestWaits(t *testing.T) {
	s := made(t, conf())
	w, id := greeted(t, s, "ann"), greeted(t, s, "ann")
	asks(t, s, id, api.Req{Kind: api.Create, Col: "home"}, 3, api.Resp{Token: 1})
	waiting(t, s, w, 2, 10)
	asks(t, s, id, put("u"), 6, api.Resp{Token: 2, Version: 2})
	picks(t, s, w, 5, Busy)
	stuck(t, s, w, Busy)
	asks(t, s, id, put("v"), 6, api.Resp{Token: 3, Version: 3})
	picks(t, s, w, 6, Idle)
	if b := s.Take(w, 99); b != answer(t, api.Resp{Kind: api.Wait, Token: 3}) {
		t.Errorf("P29.2: %q", b)
	}
	waiting(t, s, w, 3, 10)
	if !s.Tick(9) || s.Now() != 9 || s.Tick(-1) || s.Tick(math.MaxInt) {
		t.Error("P29.1: Tick")
	}
	stuck(t, s, w, Busy)
	s.Tick(1)
	picks(t, s, w, 6, Idle)
	if b := s.Take(w, 99); b != answer(t, resp.Bad(api.Wait, api.ErrTimeout)) {
		t.Errorf("P29.2: %q", b)
	}
}

func TestStop(t *testing.T) {
	s := made(t, conf())
	w, id, idle := greeted(t, s, "ann"), greeted(t, s, "ann"), greeted(t, s, "ann")
	asks(t, s, id, api.Req{Kind: api.Create, Col: "home"}, 3, api.Resp{Token: 1})
	waiting(t, s, w, 1, 1000)
	send(t, s, id, framed(t, put("u"))+framed(t, put("v")))
	picks(t, s, id, 2, Busy)
	send(t, s, idle, framed(t, put("w")))
	stuckAhead := s.Can(w)
	s.Stop()
	s.Stop()
	if stuckAhead || !slices.Equal(s.Runnable(), []int{w, id, idle}) {
		t.Errorf("P29.2: Runnable: %v", s.Runnable())
	}
	picks(t, s, idle, 1, Ended)
	picks(t, s, w, 6, Idle)
	picks(t, s, w, 1, Ended)
	picks(t, s, id, 4, Idle)
	picks(t, s, id, 1, Ended)
	if b := s.Take(w, 99); b != answer(t, resp.Bad(api.Wait, api.ErrClosed)) {
		t.Errorf("P29.3: %q", b)
	}
	if b := s.Take(id, 99); b != answer(t, api.Resp{Kind: api.Put, Token: 2, Version: 2}) {
		t.Errorf("P29.3: %q", b)
	}
	if b := s.Take(idle, 99); b != "" || len(s.Runnable()) != 0 {
		t.Errorf("P29.2: %q", b)
	}
}

func TestStopOfIdleWithoutBytes(t *testing.T) {
	s := made(t, conf())
	id := open(t, s)
	s.Stop()
	picks(t, s, id, 1, Ended)
}

func TestDo(t *testing.T) {
	s := made(t, conf())
	for i, c := range []struct {
		a    api.Act
		want bool
	}{
		{api.Act{}, false},
		{api.Act{Kind: 8}, false},
		{api.Act{Kind: -1}, false},
		{api.Act{Kind: api.Pick}, false},
		{api.Act{Kind: api.Open}, true},
		{api.Act{Kind: api.Open}, true},
		{api.Act{Kind: api.Open}, true},
		{api.Act{Kind: api.Open}, false},
		{api.Act{Kind: api.Send, Conn: 1, Bytes: framed(t, hello("ann"))}, true},
		{api.Act{Kind: api.Send, Conn: 3, Bytes: "x"}, false},
		{api.Act{Kind: api.Take, Conn: 1, N: 9}, false},
		{api.Act{Kind: api.Pick, Conn: 1}, true},
		{api.Act{Kind: api.Pick, Conn: 1}, true},
		{api.Act{Kind: api.Pick, Conn: 1}, false},
		{api.Act{Kind: api.Take, Conn: 1, N: 0}, false},
		{api.Act{Kind: api.Take, Conn: 1, N: 1}, true},
		{api.Act{Kind: api.Take, Conn: 0, N: 1}, false},
		{api.Act{Kind: api.Tick, N: 5}, true},
		{api.Act{Kind: api.Tick, N: -5}, false},
		{api.Act{Kind: api.Half, Conn: 2}, true},
		{api.Act{Kind: api.Half, Conn: 7}, false},
		{api.Act{Kind: api.Pick, Conn: 2}, true},
		{api.Act{Kind: api.Open}, true},
		{api.Act{Kind: api.Stop}, true},
		{api.Act{Kind: api.Stop}, true},
		{api.Act{Kind: api.Open}, false},
	} {
		if got := s.Do(c.a); got != c.want {
			t.Errorf("P29.3: act %d: %+v: %v", i, c.a, got)
		}
	}
	if !slices.Equal(s.Runnable(), []int{0, 1, 3}) {
		t.Errorf("P29.3: Runnable behind Stop: %v", s.Runnable())
	}
	if s.Now() != 5 || s.State(2) != Ended || s.State(3) != Idle || s.State(4) != 0 {
		t.Errorf("P29.3: Now %d, states %d, %d, %d", s.Now(), s.State(2), s.State(3), s.State(4))
	}
}

func TestEventsAreNewMemory(t *testing.T) {
	s := made(t, conf())
	id := greeted(t, s, "ann")
	asks(t, s, id, api.Req{Kind: api.Create, Col: "home"}, 3, api.Resp{Token: 1})
	q := api.Req{Kind: api.Batch, Col: "home", Ops: []api.Op{{UID: "a", Card: ann}, {UID: "b", Card: ann}}}
	asks(t, s, id, q, 8, api.Resp{Token: 2})
	asks(t, s, id, api.Req{Kind: api.List}, 3, api.Resp{Items: []api.Item{{UID: "home", Version: 2}}})
	kept := s.Events()
	l := s.Events()
	for i := range l {
		l[i].Conn = 77
		for k := range l[i].Req.Ops {
			l[i].Req.Ops[k].UID = "x"
		}
		for k := range l[i].Resp.Items {
			l[i].Resp.Items[k].UID = "x"
		}
	}
	if !reflect.DeepEqual(s.Events(), kept) {
		t.Error("P0.4: Events hands out its memory")
	}
}

func TestNumbersOfStates(t *testing.T) {
	for i, s := range []int{Idle, Busy, Answers, Ended} {
		if s != i+1 {
			t.Errorf("P29.1: state %d is %d", i+1, s)
		}
	}
}
