package whole

import (
	"math/rand"
	"slices"
	"strconv"
	"testing"

	"henhouse/api"
	"henhouse/book"
	"henhouse/client"
	"henhouse/hist"
)

// seen is what a client has behind a Sync without an error and without More.
type seen struct {
	conn, seq int
	cards     []api.Item
	token     int64
}

// syncer is a client on its connection.
type syncer struct {
	*client.Client
	conn, seq, told int
}

// ask draws what the client asks next.
func (y *syncer) ask(r *rand.Rand) string {
	uid := "u" + strconv.Itoa(r.Intn(6))
	switch r.Intn(9) {
	case 0:
		return y.Make()
	case 1, 2:
		return y.Save(uid, "name:Ann"+strconv.Itoa(r.Intn(99))+"\n")
	case 3:
		return y.Erase(uid)
	case 4:
		return y.Wait(r.Intn(20))
	}
	return y.Sync(1 + r.Intn(3))
}

// got hands the client what has come, and remembers what it has then.
func (y *syncer) got(t *testing.T, b string, l []seen) []seen {
	t.Helper()
	if e := y.Got(b); e != api.OK {
		t.Fatalf("P31.2: Got: %d", e)
	}
	told := y.Told()
	if len(told) == y.told {
		return l
	}
	y.told = len(told)
	a := told[y.told-1]
	if a.Kind != api.Delta || a.Err != api.OK || a.More {
		return l
	}
	return append(l, seen{conn: y.conn, seq: y.seq, cards: y.Replica().Cards(), token: y.Replica().Token()})
}

// Behind each such Sync the replica is the collection as it was at that answer's point.
func TestAClientsCopy(t *testing.T) {
	r := rand.New(rand.NewSource(31))
	synced, again := 0, 0
	for range 80 {
		c := conf()
		c.Quota.Log = 1 + r.Intn(6)
		c.Start = int64(r.Intn(3))
		s := made(t, c)
		var all []*syncer
		for i := range 6 {
			s.Open()
			y := &syncer{Client: client.New([]string{"ann", "bob"}[i%2], "home"), conn: i, seq: 1}
			s.Send(i, y.Hello())
			all = append(all, y)
		}
		var l []seen
		for range 1500 {
			y := all[r.Intn(len(all))]
			// One that is busy asks nothing.
			if b := y.ask(r); b != "" {
				y.seq++
				s.Send(y.conn, b)
			}
			s.Tick(r.Intn(8) / 7)
			s.Pick(y.conn)
			l = y.got(t, s.Take(y.conn, r.Intn(60)), l)
		}
		synced += len(l)
		again += checkSeen(t, c, s.Events(), l)
	}
	if synced < 1000 || again < 100 {
		t.Errorf("only %d syncs, %d anew", synced, again)
	}
}

// checkSeen goes through the points by book, and tells how many a Delta was refused its token.
func checkSeen(t *testing.T, c api.Conf, events []api.Event, l []seen) int {
	t.Helper()
	ordered(t, c, events)
	b, _ := book.New(c)
	again := 0
	for _, e := range hist.Order(events) {
		a := b.Do(e.Tenant, e.Req)
		if e.Req.Kind == api.Delta && a.Err == api.ErrToken {
			again++
		}
		i := slices.IndexFunc(l, func(x seen) bool { return x.conn == e.Conn && x.seq == e.Seq })
		if i < 0 {
			continue
		}
		live, _ := b.Live(e.Tenant, "home")
		latest, _ := b.Latest(e.Tenant, "home")
		if !slices.Equal(live, l[i].cards) || latest != l[i].token {
			t.Fatalf("P0.9, P31.3: %v at %d, not %v at %d", l[i].cards, l[i].token, live, latest)
		}
	}
	return again
}
