// Package whole tests what the whole promises: scripts of acts, against a server.
package whole

import (
	"math/rand"
	"reflect"
	"slices"
	"strconv"
	"testing"

	"henhouse/api"
	"henhouse/frame"
	"henhouse/hist"
	"henhouse/req"
	"henhouse/resp"
	"henhouse/server"
)

func conf() api.Conf {
	return api.Conf{Conns: 12, Room: api.MaxFrame + 6, Shards: 3, Quota: api.Quota{Cols: 3, Cards: 6, Bytes: 150, Log: 8}}
}

func made(t *testing.T, c api.Conf) *server.Server {
	t.Helper()
	s, e := server.New(c)
	if e != api.OK {
		t.Fatal(e)
	}
	return s
}

func same(a, b api.Resp) bool {
	x, y := a, b
	x.Items, y.Items = nil, nil
	return reflect.DeepEqual(x, y) && slices.Equal(a.Items, b.Items)
}

func framed(t *testing.T, q api.Req) string {
	t.Helper()
	body, e := req.Encode(q)
	if e != api.OK {
		t.Fatalf("%+v: %d", q, e)
	}
	b, _ := frame.Put(nil, frame.Frame{Kind: q.Kind, Body: string(body)})
	return string(b)
}

// answers reads all frames of b.
func answers(t *testing.T, b string) []api.Resp {
	t.Helper()
	var l []api.Resp
	for left := []byte(b); len(left) > 0; {
		f, n, e := frame.Next(left)
		if e != api.OK {
			t.Fatalf("an answer's frame: %d", e)
		}
		a, e := resp.Decode(f.Kind, []byte(f.Body))
		if e != api.OK {
			t.Fatalf("an answer: %d", e)
		}
		l = append(l, a)
		left = left[n:]
	}
	return l
}

// draw draws a request; its tokens are of those that were told.
func draw(r *rand.Rand, told []int64) api.Req {
	token := func() int64 {
		if len(told) == 0 || r.Intn(5) == 0 {
			return 0
		}
		return told[max(len(told)-1-r.Intn(5), 0)]
	}
	uid := func() string { return "u" + strconv.Itoa(r.Intn(8)) }
	card := func() string { return "name:Ann" + strconv.Itoa(r.Intn(300)) + "\n" }
	cond := func() api.Cond {
		v := token()
		if v > 0 && r.Intn(2) == 0 {
			return api.Cond{Kind: api.Exact, Version: v}
		}
		return api.Cond{Kind: []int{0, 0, 0, api.Absent, api.Present}[r.Intn(5)]}
	}
	q := api.Req{Kind: []int{api.Create, api.Drop, api.Put, api.Put, api.Put, api.Delete, api.Get, api.Batch, api.Batch, api.Delta, api.Delta, api.Wait, api.Wait, api.List}[r.Intn(14)]}
	if q.Kind == api.Drop && r.Intn(4) > 0 {
		q.Kind = api.Create
	}
	if q.Kind != api.List {
		q.Col = []string{"home", "home", "work", "away"}[r.Intn(4)]
	}
	switch q.Kind {
	case api.Put:
		q.UID, q.Card, q.Cond = uid(), card(), cond()
	case api.Delete:
		q.UID, q.Cond = uid(), cond()
	case api.Get:
		q.UID = uid()
	case api.Delta:
		q.Token, q.Most = token(), 1+r.Intn(5)
	case api.Wait:
		q.Token, q.Ticks = token(), r.Intn(6)
	case api.Batch:
		for range 1 + r.Intn(4) {
			op := api.Op{Del: r.Intn(3) == 0, UID: uid(), Cond: cond()}
			if !op.Del {
				op.Card = card()
			}
			q.Ops = append(q.Ops, op)
		}
	}
	return q
}

// The points, in their order, are such as book answers; each lies between its reading and its answer.
func TestThereIsAnOrder(t *testing.T) {
	r := rand.New(rand.NewSource(29))
	for range 120 {
		c := conf()
		c.Shards = 1 + r.Intn(16)
		s := made(t, c)
		var told []int64
		bound := map[int]bool{}
		for range 1500 {
			switch r.Intn(12) {
			case 0:
				if id, e := s.Open(); e == api.OK {
					s.Send(id, framed(t, api.Req{Kind: api.Hello, Tenant: []string{"ann", "bob"}[r.Intn(2)]}))
					bound[id] = true
				}
			case 1:
				s.Tick(r.Intn(3))
			case 2, 3, 4:
				if len(bound) > 0 {
					s.Send(r.Intn(len(bound)), framed(t, draw(r, told)))
				}
			default:
				if l := s.Runnable(); len(l) > 0 {
					s.Pick(l[r.Intn(len(l))])
				}
			}
			if len(bound) > 0 {
				for _, a := range answers(t, s.Take(r.Intn(len(bound)), 1<<20)) {
					if a.Token > 0 {
						told = append(told, a.Token)
					}
				}
			}
		}
		ordered(t, c, s.Events())
	}
}

func ordered(t *testing.T, c api.Conf, l []api.Event) {
	t.Helper()
	if at, e := hist.Check(c, l); e != api.OK || at != len(l) {
		t.Fatalf("P0.8, P29.2, P30.2: event %d: %d: %+v", at, e, l[at])
	}
	if n := len(hist.Pending(l)); n > c.Conns {
		t.Fatalf("P30.1: %d requests are pending", n)
	}
}

// deed is one thing of a script whose requests name tokens by how many were told since.
type deed struct {
	conn, kind, n int
	seed          int64
}

// play plays the deeds of some connections; the others are opened, and do nothing.
func play(t *testing.T, l []deed, tenants []string, some func(tenant string) bool) map[int][]api.Resp {
	t.Helper()
	s := made(t, conf())
	for range tenants {
		s.Open()
	}
	told := map[string][]int64{}
	out := map[int][]api.Resp{}
	take := func(conn int) {
		for _, a := range answers(t, s.Take(conn, 1<<20)) {
			out[conn] = append(out[conn], a)
			if a.Token > 0 {
				told[tenants[conn]] = append(told[tenants[conn]], a.Token)
			}
		}
	}
	for _, d := range l {
		if d.kind == api.Tick {
			s.Tick(d.n)
			continue
		}
		tenant := tenants[d.conn]
		if !some(tenant) {
			continue
		}
		switch d.kind {
		case api.Open:
			s.Send(d.conn, framed(t, api.Req{Kind: api.Hello, Tenant: tenant}))
		case api.Send:
			s.Send(d.conn, framed(t, draw(rand.New(rand.NewSource(d.seed)), told[tenant])))
		case api.Pick:
			s.Pick(d.conn)
			take(d.conn)
		}
	}
	return out
}

// plain puts for each token its place among all that were told of that tenant.
func plain(out map[int][]api.Resp, tenants []string, tenant string) [][]api.Resp {
	seen := map[int64]bool{}
	each := func(f func(*int64)) {
		for conn := range tenants {
			if tenants[conn] != tenant {
				continue
			}
			for i := range out[conn] {
				f(&out[conn][i].Token)
				f(&out[conn][i].Version)
				for k := range out[conn][i].Items {
					f(&out[conn][i].Items[k].Version)
				}
			}
		}
	}
	each(func(n *int64) { seen[*n] = true })
	var all []int64
	for n := range seen {
		all = append(all, n)
	}
	slices.Sort(all)
	each(func(n *int64) {
		if *n != 0 {
			at, _ := slices.BinarySearch(all, *n)
			*n = int64(at) + 1
		}
	})
	var l [][]api.Resp
	for conn := range tenants {
		if tenants[conn] == tenant {
			l = append(l, out[conn])
		}
	}
	return l
}

// What a tenant is answered hangs on its own requests, picks and ticks alone, but for the values of tokens.
func TestTenantsApart(t *testing.T) {
	r := rand.New(rand.NewSource(12))
	tenants := []string{"ann", "bob", "ann", "bob", "ann", "bob"}
	for range 60 {
		var l []deed
		for conn := range tenants {
			l = append(l, deed{conn: conn, kind: api.Open})
		}
		for range 1500 {
			d := deed{conn: r.Intn(len(tenants)), kind: api.Pick, seed: r.Int63()}
			switch r.Intn(12) {
			case 0:
				d.kind, d.n = api.Tick, r.Intn(3)
			case 1, 2:
				d.kind = api.Send
			}
			l = append(l, d)
		}
		both := play(t, l, tenants, func(string) bool { return true })
		for _, tenant := range []string{"ann", "bob"} {
			alone := play(t, l, tenants, func(x string) bool { return x == tenant })
			if x, y := plain(both, tenants, tenant), plain(alone, tenants, tenant); !reflect.DeepEqual(x, y) {
				t.Fatalf("P0.12, P29.4: %s is answered otherwise", tenant)
			}
		}
	}
}

// waiters is a server where connection 0 writes and all others wait for more than the birth of home.
func waiters(t *testing.T, ticks int) *server.Server {
	t.Helper()
	s := made(t, conf())
	for i := range 12 {
		s.Open()
		s.Send(i, framed(t, api.Req{Kind: api.Hello, Tenant: "ann"}))
		if i == 0 {
			s.Send(i, framed(t, api.Req{Kind: api.Create, Col: "home"}))
		}
		for s.Pick(i) {
		}
		if i > 0 {
			s.Send(i, framed(t, api.Req{Kind: api.Wait, Col: "home", Token: 1, Ticks: ticks}))
			for s.Pick(i) {
			}
		}
		s.Take(i, 999)
	}
	return s
}

// rounds picks all in rounds till all that wait are answered, and tells how many rounds that took behind the writer's answer.
func rounds(t *testing.T, s *server.Server, kind int, wrote func() bool) {
	t.Helper()
	from := -1
	for n := 0; n < 40; n++ {
		if from < 0 && wrote() {
			from = n
		}
		idle := 0
		for i := range 12 {
			s.Pick(i)
		}
		for i := 1; i < 12; i++ {
			if s.State(i) == server.Idle {
				idle++
			}
		}
		if idle == 11 {
			if from >= 0 && n+1-from > 8 {
				t.Errorf("P0.11: kind %d: %d rounds", kind, n+1-from)
			}
			return
		}
	}
	t.Errorf("P0.11: kind %d: they wait for ever", kind)
}

func TestWaitsAreAnsweredWithinEightRounds(t *testing.T) {
	card := "name:Ann\n"
	for _, q := range []api.Req{
		{Kind: api.Put, Col: "home", UID: "u", Card: card},
		{Kind: api.Batch, Col: "home", Ops: []api.Op{{UID: "u", Card: card}, {UID: "v", Card: card}, {UID: "w", Card: card}}},
		{Kind: api.Drop, Col: "home"},
	} {
		s := waiters(t, 1000)
		s.Send(0, framed(t, q))
		rounds(t, s, q.Kind, func() bool { return len(s.Take(0, 999)) > 0 })
		want := api.Resp{Kind: api.Wait, Token: 2}
		if q.Kind == api.Drop {
			want = api.Resp{Kind: api.Wait, Err: api.ErrNone}
		}
		for i := 1; i < 12; i++ {
			if l := answers(t, s.Take(i, 999)); len(l) != 1 || !same(l[0], want) {
				t.Errorf("P0.11: %+v, not %+v", l, want)
			}
		}
	}
	s := waiters(t, 7)
	s.Tick(6)
	for range 20 {
		for i := range 12 {
			if s.Pick(i) {
				t.Error("P0.11: one goes on ahead of its deadline")
			}
		}
	}
	s.Tick(1)
	rounds(t, s, api.Tick, func() bool { return true })
	for i := 1; i < 12; i++ {
		if l := answers(t, s.Take(i, 999)); len(l) != 1 || !same(l[0], api.Resp{Kind: api.Wait, Err: api.ErrTimeout}) {
			t.Errorf("P0.11: %+v", l)
		}
	}
}

// Whatever bytes come: no call panics, no collection changes but by requests that are whole.
func TestWhateverBytesCome(t *testing.T) {
	r := rand.New(rand.NewSource(13))
	for range 200 {
		c := conf()
		s := made(t, c)
		for i := range 4 {
			s.Open()
			s.Send(i, framed(t, api.Req{Kind: api.Hello, Tenant: []string{"ann", "bob"}[i%2]}))
		}
		for range 400 {
			i := r.Intn(5) - r.Intn(2)
			switch r.Intn(8) {
			case 0:
				b := []byte(framed(t, draw(r, nil)))
				for range r.Intn(3) {
					b[r.Intn(len(b))] = byte(r.Intn(256))
				}
				for len(b) > 0 {
					n := 1 + r.Intn(len(b))
					s.Send(i, string(b[:n]))
					b = b[n:]
				}
			case 1:
				if r.Intn(20) == 0 {
					s.Half(i)
				}
			case 2:
				s.Take(i, r.Intn(2000))
			case 3:
				s.Tick(r.Intn(3) - 1)
			default:
				s.Pick(i)
			}
		}
		ordered(t, c, s.Events())
		for i, e := range s.Events() {
			if e.Kind == api.Committed && req.Check(e.Req) != api.OK {
				t.Fatalf("P0.13: event %d: %+v", i, e)
			}
		}
	}
}
