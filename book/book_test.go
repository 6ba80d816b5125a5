package book

import (
	"math"
	"math/rand"
	"reflect"
	"slices"
	"strconv"
	"strings"
	"testing"

	"henhouse/api"
)

const ann = "name:Ann\n"

func conf() api.Conf {
	return api.Conf{Conns: 2, Start: 0, Room: api.MaxFrame + 6, Shards: 1, Quota: api.Quota{Cols: 2, Cards: 3, Bytes: 40, Log: 4}}
}

func made(t *testing.T, c api.Conf) *Book {
	t.Helper()
	b, e := New(c)
	if e != api.OK || b == nil {
		t.Fatalf("P19.1: New: %d", e)
	}
	return b
}

func create(name string) api.Req { return api.Req{Kind: api.Create, Col: name} }

func put(uid, card string) api.Req {
	return api.Req{Kind: api.Put, Col: "home", UID: uid, Card: card}
}

func del(uid string) api.Req { return api.Req{Kind: api.Delete, Col: "home", UID: uid} }

func get(uid string) api.Req { return api.Req{Kind: api.Get, Col: "home", UID: uid} }

func delta(token int64, most int) api.Req {
	return api.Req{Kind: api.Delta, Col: "home", Token: token, Most: most}
}

func wait(token int64) api.Req { return api.Req{Kind: api.Wait, Col: "home", Token: token, Ticks: 9} }

func batch(ops ...api.Op) api.Req { return api.Req{Kind: api.Batch, Col: "home", Ops: ops} }

func same(a, b api.Resp) bool {
	x, y := a, b
	x.Items, y.Items = nil, nil
	return reflect.DeepEqual(x, y) && slices.Equal(a.Items, b.Items)
}

// does asks, and looks whether it is answered so, and Counter is the last token that was drawn.
func does(t *testing.T, b *Book, q api.Req, want api.Resp) {
	t.Helper()
	want.Kind = q.Kind
	ahead := b.Counter()
	a := b.Do("ann", q)
	if !same(a, want) {
		t.Errorf("P19.2: %+v: %+v, not %+v", q, a, want)
	}
	switch q.Kind {
	case api.Create, api.Drop, api.Put, api.Delete, api.Batch:
		if a.Err == api.OK {
			ahead++
		}
	}
	if b.Counter() != ahead {
		t.Errorf("P19.1: %+v: Counter %d, not %d", q, b.Counter(), ahead)
	}
}

func bad(e api.Errno) api.Resp { return api.Resp{Err: e} }

func token(n int64) api.Resp { return api.Resp{Token: n} }

func TestMay(t *testing.T) {
	for i, c := range []struct {
		change func(*api.Conf)
		e      api.Errno
	}{
		{func(c *api.Conf) {}, api.OK},
		{func(c *api.Conf) { c.Conns = 1 }, api.OK},
		{func(c *api.Conf) { c.Conns = 12 }, api.OK},
		{func(c *api.Conf) { c.Conns = 0 }, api.ErrRange},
		{func(c *api.Conf) { c.Conns = 13 }, api.ErrRange},
		{func(c *api.Conf) { c.Start = -1 }, api.ErrRange},
		{func(c *api.Conf) { c.Start = math.MaxInt64 }, api.OK},
		{func(c *api.Conf) { c.Room = 20005 }, api.ErrRange},
		{func(c *api.Conf) { c.Room = 40000 }, api.OK},
		{func(c *api.Conf) { c.Room = 40001 }, api.ErrRange},
		{func(c *api.Conf) { c.Shards = 0 }, api.ErrRange},
		{func(c *api.Conf) { c.Shards = 16 }, api.OK},
		{func(c *api.Conf) { c.Shards = 17 }, api.ErrRange},
		{func(c *api.Conf) { c.Quota.Log = 0 }, api.ErrRange},
		{func(c *api.Conf) { c.Quota.Cards = 17 }, api.ErrRange},
	} {
		x := conf()
		c.change(&x)
		b, e := New(x)
		if May(x) != c.e || e != c.e || (b != nil) != (e == api.OK) {
			t.Errorf("P19.1: case %d: %d, %d, not %d", i, May(x), e, c.e)
		}
		if b != nil && b.Counter() != x.Start {
			t.Errorf("P19.1: case %d: Counter %d", i, b.Counter())
		}
	}
}

func TestRefusals(t *testing.T) {
	b := made(t, conf())
	for _, c := range []struct {
		tenant string
		q      api.Req
		e      api.Errno
	}{
		{"", api.Req{}, api.ErrName},
		{"Ann", api.Req{Kind: api.Hello, Tenant: "ann"}, api.ErrName},
		{"ann", api.Req{}, api.ErrRange},
		{"ann", api.Req{Kind: 77}, api.ErrRange},
		{"ann", create("Home"), api.ErrName},
		{"ann", api.Req{Kind: api.Create, Col: "home", UID: "u"}, api.ErrForm},
		{"ann", put("u", "x"), api.ErrForm},
		{"ann", delta(0, 0), api.ErrRange},
		{"ann", api.Req{Kind: api.Hello, Tenant: "A"}, api.ErrName},
		{"ann", api.Req{Kind: api.Hello, Tenant: "ann"}, api.ErrState},
		{"ann", api.Req{Kind: api.Bye}, api.ErrState},
	} {
		if a := b.Do(c.tenant, c.q); !same(a, api.Resp{Kind: c.q.Kind, Err: c.e}) {
			t.Errorf("P19.2: %q, %+v: %+v, not %d", c.tenant, c.q, a, c.e)
		}
	}
	if b.Counter() != 0 || b.Bytes("ann") != 0 {
		t.Error("P19.4: an error changes something")
	}
}

func TestCreateListDrop(t *testing.T) {
	b := made(t, conf())
	does(t, b, api.Req{Kind: api.List}, api.Resp{})
	does(t, b, create("home"), token(1))
	does(t, b, create("home"), bad(api.ErrExists))
	does(t, b, create("away"), token(2))
	does(t, b, create("home"), bad(api.ErrExists))
	does(t, b, create("more"), bad(api.ErrQuota))
	does(t, b, put("u", ann), api.Resp{Token: 3, Version: 3})
	does(t, b, api.Req{Kind: api.List}, api.Resp{Items: []api.Item{{UID: "away", Version: 2}, {UID: "home", Version: 3}}})
	if b.Bytes("ann") != 9 || b.Bytes("bob") != 0 {
		t.Errorf("P19.3: Bytes %d, %d", b.Bytes("ann"), b.Bytes("bob"))
	}
	does(t, b, api.Req{Kind: api.Drop, Col: "none"}, bad(api.ErrNone))
	does(t, b, api.Req{Kind: api.Drop, Col: "home"}, token(4))
	does(t, b, api.Req{Kind: api.Drop, Col: "home"}, bad(api.ErrNone))
	if b.Bytes("ann") != 0 {
		t.Errorf("P19.2: %d bytes are not given back", b.Bytes("ann"))
	}
	does(t, b, api.Req{Kind: api.List}, api.Resp{Items: []api.Item{{UID: "away", Version: 2}}})
	does(t, b, create("home"), token(5))
	does(t, b, get("u"), bad(api.ErrNone))
	// Another tenant has its own.
	if a := b.Do("bob", create("home")); a.Token != 6 || a.Err != api.OK {
		t.Errorf("P19.2: %+v", a)
	}
	if a := b.Do("bob", get("u")); a.Err != api.ErrNone {
		t.Errorf("P19.2: %+v", a)
	}
}

func TestNoSuchCollection(t *testing.T) {
	b := made(t, conf())
	for _, q := range []api.Req{put("u", ann), del("u"), get("u"), batch(api.Op{UID: "u", Card: ann}), delta(0, 1), wait(0), {Kind: api.Drop, Col: "home"}} {
		does(t, b, q, bad(api.ErrNone))
	}
}

func TestWrites(t *testing.T) {
	b := made(t, conf())
	does(t, b, create("home"), token(1))
	absent := put("a", ann)
	absent.Cond.Kind = api.Absent
	does(t, b, absent, api.Resp{Token: 2, Version: 2})
	does(t, b, absent, bad(api.ErrCond))
	does(t, b, get("a"), api.Resp{Version: 2, Card: ann})
	does(t, b, get("b"), bad(api.ErrNone))
	exact := del("a")
	exact.Cond = api.Cond{Kind: api.Exact, Version: 1}
	does(t, b, exact, bad(api.ErrCond))
	does(t, b, del("b"), bad(api.ErrNone))
	exact.Cond.Version = 2
	does(t, b, exact, token(3))
	does(t, b, get("a"), bad(api.ErrNone))
	// Forty bytes may be kept, and three cards.
	does(t, b, put("a", "name:"+strings.Repeat("n", 14)+"\n"), api.Resp{Token: 4, Version: 4})
	does(t, b, put("b", "name:"+strings.Repeat("n", 15)+"\n"), bad(api.ErrQuota))
	does(t, b, put("b", "name:"+strings.Repeat("n", 14)+"\n"), api.Resp{Token: 5, Version: 5})
	does(t, b, put("a", ann), api.Resp{Token: 6, Version: 6})
	does(t, b, put("c", ann), api.Resp{Token: 7, Version: 7})
	does(t, b, put("b", ann), api.Resp{Token: 8, Version: 8})
	does(t, b, put("d", ann), bad(api.ErrQuota))
	if b.Bytes("ann") != 27 {
		t.Errorf("P19.3: %d bytes", b.Bytes("ann"))
	}
	if l, ok := b.Live("ann", "home"); len(l) != 3 || l[0] != (api.Item{UID: "a", Version: 6, Card: ann}) || !ok {
		t.Errorf("P19.3: Live: %v, %v", l, ok)
	}
	if n, ok := b.Latest("ann", "home"); n != 8 || !ok {
		t.Errorf("P19.3: Latest: %d, %v", n, ok)
	}
	for _, c := range [][2]string{{"ann", "away"}, {"bob", "home"}, {"", ""}, {"Ann", "Home"}} {
		l, ok := b.Live(c[0], c[1])
		n, yes := b.Latest(c[0], c[1])
		if len(l) != 0 || n != 0 || ok || yes {
			t.Errorf("P19.3: %v: %v, %d", c, l, n)
		}
	}
}

// The bytes of all collections of a tenant are counted together.
func TestBytesOfAllCollections(t *testing.T) {
	b := made(t, conf())
	does(t, b, create("home"), token(1))
	does(t, b, create("away"), token(2))
	card := "name:" + strings.Repeat("n", 24) + "\n"
	does(t, b, put("a", card), api.Resp{Token: 3, Version: 3})
	away := put("a", "name:AnnLee\n")
	away.Col = "away"
	does(t, b, away, bad(api.ErrQuota))
	away.Card = ann
	does(t, b, away, api.Resp{Token: 4, Version: 4})
	does(t, b, api.Req{Kind: api.Drop, Col: "home"}, token(5))
	away.Card = card
	does(t, b, away, api.Resp{Token: 6, Version: 6})
	if b.Bytes("ann") != 30 {
		t.Errorf("P19.3: %d bytes", b.Bytes("ann"))
	}
}

func TestBatch(t *testing.T) {
	b := made(t, conf())
	does(t, b, create("home"), token(1))
	does(t, b, batch(api.Op{UID: "b", Card: ann}, api.Op{Del: true, UID: "c"}), api.Resp{Err: api.ErrNone, Index: 1})
	does(t, b, get("b"), bad(api.ErrNone))
	does(t, b, batch(api.Op{UID: "b", Card: ann}, api.Op{UID: "a", Card: ann}), token(2))
	does(t, b, get("a"), api.Resp{Version: 2, Card: ann})
	does(t, b, batch(api.Op{UID: "c", Card: ann}, api.Op{UID: "a", Card: ann}, api.Op{UID: "c", Card: ann}), api.Resp{Err: api.ErrTwice, Index: 2})
	does(t, b, batch(api.Op{UID: "c", Card: ann}, api.Op{UID: "d", Card: ann}), api.Resp{Err: api.ErrQuota, Index: 1})
	does(t, b, batch(api.Op{Del: true, UID: "a"}, api.Op{UID: "c", Card: ann}, api.Op{UID: "d", Card: ann}), token(3))
	does(t, b, batch(api.Op{UID: "c", Card: ann, Cond: api.Cond{Kind: api.Exact, Version: 2}}), api.Resp{Err: api.ErrCond})
	does(t, b, delta(2, 1), api.Resp{Token: 3, Items: []api.Item{{UID: "a", Version: 3, Gone: true}, {UID: "c", Version: 3, Card: ann}, {UID: "d", Version: 3, Card: ann}}})
}

func TestDeltaAndWait(t *testing.T) {
	b := made(t, conf())
	does(t, b, create("home"), token(1))
	does(t, b, delta(0, 1), api.Resp{Token: 1})
	does(t, b, delta(1, 1), api.Resp{Token: 1})
	does(t, b, delta(2, 1), bad(api.ErrToken))
	does(t, b, wait(1), bad(api.ErrTimeout))
	does(t, b, wait(0), token(1))
	for i, uid := range []string{"a", "b", "a", "c"} {
		does(t, b, put(uid, ann), api.Resp{Token: int64(2 + i), Version: int64(2 + i)})
	}
	does(t, b, delta(1, 1), api.Resp{Token: 3, More: true, Items: []api.Item{{UID: "b", Version: 3, Card: ann}}})
	does(t, b, delta(3, 1), api.Resp{Token: 4, More: true, Items: []api.Item{{UID: "a", Version: 4, Card: ann}}})
	does(t, b, delta(4, 1), api.Resp{Token: 5, Items: []api.Item{{UID: "c", Version: 5, Card: ann}}})
	does(t, b, del("b"), token(6))
	// Four changes are kept: the one with token 2 is gone.
	does(t, b, delta(1, 9), bad(api.ErrToken))
	does(t, b, delta(2, 9), api.Resp{Token: 6, Items: []api.Item{{UID: "a", Version: 4, Card: ann}, {UID: "c", Version: 5, Card: ann}, {UID: "b", Version: 6, Gone: true}}})
	does(t, b, delta(0, 1), api.Resp{Token: 6, Items: []api.Item{{UID: "a", Version: 4, Card: ann}, {UID: "c", Version: 5, Card: ann}}})
	does(t, b, wait(5), token(6))
	does(t, b, wait(6), bad(api.ErrTimeout))
	does(t, b, wait(math.MaxInt64), bad(api.ErrTimeout))
}

func TestTokensUsedUp(t *testing.T) {
	c := conf()
	c.Start = math.MaxInt64 - 2
	b := made(t, c)
	does(t, b, create("home"), token(math.MaxInt64-1))
	does(t, b, put("a", ann), api.Resp{Token: math.MaxInt64, Version: math.MaxInt64})
	does(t, b, put("b", ann), bad(api.ErrOut))
	does(t, b, del("a"), bad(api.ErrOut))
	does(t, b, del("b"), bad(api.ErrNone))
	does(t, b, batch(api.Op{UID: "b", Card: ann}), bad(api.ErrOut))
	does(t, b, batch(api.Op{UID: "b", Card: ann}, api.Op{Del: true, UID: "z"}), api.Resp{Err: api.ErrNone, Index: 1})
	does(t, b, api.Req{Kind: api.Drop, Col: "home"}, bad(api.ErrOut))
	does(t, b, create("home"), bad(api.ErrExists))
	does(t, b, create("away"), bad(api.ErrOut))
	does(t, b, create("away"), bad(api.ErrOut))
	does(t, b, create("more"), bad(api.ErrOut))
	does(t, b, get("a"), api.Resp{Version: math.MaxInt64, Card: ann})
	does(t, b, api.Req{Kind: api.List}, api.Resp{Items: []api.Item{{UID: "home", Version: math.MaxInt64}}})
	if b.Bytes("ann") != 9 {
		t.Errorf("P19.4: %d bytes", b.Bytes("ann"))
	}
	// With as many collections as may be the quota is named first.
	c.Quota.Cols = 1
	c.Start = math.MaxInt64 - 1
	b = made(t, c)
	does(t, b, create("home"), token(math.MaxInt64))
	does(t, b, create("away"), bad(api.ErrQuota))
}

func TestErrorsChangeNothing(t *testing.T) {
	r := rand.New(rand.NewSource(19))
	b := made(t, conf())
	does(t, b, create("home"), token(1))
	last := int64(1)
	for range 3000 {
		uid := "u" + strconv.Itoa(r.Intn(5))
		q := []api.Req{put(uid, "name:"+strings.Repeat("n", 1+r.Intn(20))+"\n"), del(uid), batch(api.Op{UID: uid, Card: ann}, api.Op{Del: true, UID: "u0"}), create("away"), {Kind: api.Drop, Col: "away"}}[r.Intn(5)]
		ahead, _ := b.Live("ann", "home")
		bytes, counter := b.Bytes("ann"), b.Counter()
		list := b.Do("ann", api.Req{Kind: api.List})
		a := b.Do("ann", q)
		if a.Err == api.OK {
			if a.Token != last+1 {
				t.Fatalf("P19.4: %+v: Token %d behind %d", q, a.Token, last)
			}
			last = a.Token
			continue
		}
		live, _ := b.Live("ann", "home")
		if !slices.Equal(live, ahead) || b.Bytes("ann") != bytes || b.Counter() != counter || !same(b.Do("ann", api.Req{Kind: api.List}), list) {
			t.Fatalf("P19.4: %+v, %d, changes something", q, a.Err)
		}
	}
}

func TestMemory(t *testing.T) {
	b := made(t, conf())
	does(t, b, create("home"), token(1))
	q := batch(api.Op{UID: "a", Card: ann}, api.Op{UID: "b", Card: ann})
	does(t, b, q, token(2))
	q.Ops[0].Card = "changed"
	a := b.Do("ann", delta(0, 5))
	a.Items[0].Card = "changed"
	l, _ := b.Live("ann", "home")
	l[1].Card = "changed"
	does(t, b, delta(0, 5), api.Resp{Token: 2, Items: []api.Item{{UID: "a", Version: 2, Card: ann}, {UID: "b", Version: 2, Card: ann}}})
}
