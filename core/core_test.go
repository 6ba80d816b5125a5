package core

import (
	"math"
	"math/rand"
	"reflect"
	"slices"
	"strconv"
	"strings"
	"testing"

	"henhouse/api"
	"henhouse/book"
	"henhouse/rw"
)

const ann = "name:Ann\n"

func conf() api.Conf {
	return api.Conf{Conns: 2, Room: api.MaxFrame + 6, Shards: 3, Quota: api.Quota{Cols: 2, Cards: 3, Bytes: 40, Log: 4}}
}

func made(t *testing.T, c api.Conf) *Core {
	t.Helper()
	x, e := New(c)
	if e != api.OK || x == nil {
		t.Fatalf("P27.1: New: %d", e)
	}
	return x
}

func put(uid, card string) api.Req {
	return api.Req{Kind: api.Put, Col: "home", UID: uid, Card: card}
}

func get(uid string) api.Req { return api.Req{Kind: api.Get, Col: "home", UID: uid} }

func batch(ops ...api.Op) api.Req { return api.Req{Kind: api.Batch, Col: "home", Ops: ops} }

func same(a, b api.Resp) bool {
	x, y := a, b
	x.Items, y.Items = nil, nil
	return reflect.DeepEqual(x, y) && slices.Equal(a.Items, b.Items)
}

func is(t *testing.T, a, want api.Resp) {
	t.Helper()
	if !same(a, want) {
		t.Errorf("P27: %+v, not %+v", a, want)
	}
}

func work(t *testing.T, x *Core, id int, q api.Req, want api.Resp, wantItems ...api.Item) {
	t.Helper()
	a, items := x.Work(id, q)
	want.Kind = q.Kind
	is(t, a, want)
	if !slices.Equal(items, wantItems) {
		t.Errorf("P27.4: %v beside, not %v", items, wantItems)
	}
}

func TestNew(t *testing.T) {
	x := made(t, conf())
	if x.Counter() != 0 || x.Now() != 0 || x.Find("ann", "home") != -1 || x.Alive(0) || x.Alive(-1) {
		t.Error("P27.1: New")
	}
	c := conf()
	c.Start = 7
	if made(t, c).Counter() != 7 {
		t.Error("P27.1: Counter")
	}
	for _, change := range []func(*api.Conf){func(c *api.Conf) { c.Conns = 0 }, func(c *api.Conf) { c.Shards = 17 }, func(c *api.Conf) { c.Quota.Log = 0 }, func(c *api.Conf) { c.Room = 1 }} {
		c := conf()
		change(&c)
		if x, e := New(c); x != nil || e != api.ErrRange {
			t.Errorf("P27.1: New(%+v): %d", c, e)
		}
	}
}

func TestCreateFindList(t *testing.T) {
	x := made(t, conf())
	for _, c := range [][2]string{{"", "home"}, {"ann", ""}, {"Ann", "home"}, {"ann", "a/b"}, {"ann", "-"}} {
		is(t, x.Create(c[0], c[1]), api.Resp{Kind: api.Create, Err: api.ErrName})
		if x.Find(c[0], c[1]) != -1 {
			t.Errorf("P27.1: Find(%q)", c)
		}
	}
	is(t, x.List(""), api.Resp{Kind: api.List, Err: api.ErrName})
	is(t, x.List("ann"), api.Resp{Kind: api.List})
	is(t, x.Create("ann", "home"), api.Resp{Kind: api.Create, Token: 1})
	is(t, x.Create("ann", "home"), api.Resp{Kind: api.Create, Err: api.ErrExists})
	is(t, x.Create("anna", "away"), api.Resp{Kind: api.Create, Token: 2})
	is(t, x.Create("ann", "away"), api.Resp{Kind: api.Create, Token: 3})
	is(t, x.Create("ann", "more"), api.Resp{Kind: api.Create, Err: api.ErrQuota})
	is(t, x.Create("ann", "home"), api.Resp{Kind: api.Create, Err: api.ErrExists})
	is(t, x.List("ann"), api.Resp{Kind: api.List, Items: []api.Item{{UID: "away", Version: 3}, {UID: "home", Version: 1}}})
	is(t, x.List("anna"), api.Resp{Kind: api.List, Items: []api.Item{{UID: "away", Version: 2}}})
	is(t, x.List("an"), api.Resp{Kind: api.List})
	if x.Find("ann", "home") != 0 || x.Find("anna", "away") != 1 || x.Find("ann", "away") != 2 || !x.Alive(2) || x.Alive(3) || x.Alive(math.MaxInt) {
		t.Error("P27.1: ids")
	}
}

func TestDrop(t *testing.T) {
	x := made(t, conf())
	x.Create("ann", "home")
	work(t, x, 0, put("u", ann), api.Resp{Token: 2, Version: 2})
	work(t, x, 0, api.Req{Kind: api.Drop, Col: "home"}, api.Resp{Token: 3})
	if x.Alive(0) || x.Find("ann", "home") != -1 || x.Counter() != 3 {
		t.Error("P27.4: Drop")
	}
	is(t, x.List("ann"), api.Resp{Kind: api.List})
	for _, q := range []api.Req{put("u", ann), get("u"), batch(api.Op{UID: "u", Card: ann}), {Kind: api.Drop, Col: "home"}, {Kind: api.List}, {Kind: api.Delta, Col: "home", Most: 1}, {Kind: api.Wait, Col: "home"}} {
		for _, id := range []int{0, 1, -1, math.MinInt, math.MaxInt} {
			work(t, x, id, q, api.Resp{Err: api.ErrNone})
		}
	}
	// Its bytes are given back, and its name is free for a new one with an id of its own.
	is(t, x.Create("ann", "home"), api.Resp{Kind: api.Create, Token: 4})
	if x.Find("ann", "home") != 1 || x.Alive(0) || !x.Alive(1) {
		t.Error("P27.2: the next id")
	}
	work(t, x, 1, get("u"), api.Resp{Err: api.ErrNone})
	work(t, x, 1, put("u", "name:"+strings.Repeat("n", 34)+"\n"), api.Resp{Token: 5, Version: 5})
	work(t, x, 1, put("v", ann), api.Resp{Err: api.ErrQuota})
}

func TestWorkOfOtherKinds(t *testing.T) {
	x := made(t, conf())
	x.Create("ann", "home")
	for _, k := range []int{api.Hello, api.Create, api.List, api.Bye, 0, -1, 99} {
		work(t, x, 0, api.Req{Kind: k}, api.Resp{Err: api.ErrState})
	}
	if x.Counter() != 1 {
		t.Error("P27.4: an error changes something")
	}
}

func TestWorkOfABatch(t *testing.T) {
	x := made(t, conf())
	x.Create("ann", "home")
	work(t, x, 0, put("a", ann), api.Resp{Token: 2, Version: 2})
	first, second := api.Op{UID: "b", Card: "name:" + strings.Repeat("n", 20) + "\n"}, api.Op{Del: true, UID: "a"}
	work(t, x, 0, batch(first, api.Op{Del: true, UID: "z"}), api.Resp{Err: api.ErrNone, Index: 1})
	work(t, x, 0, batch(first, second), api.Resp{Token: 3})
	// List alone shows the token; the budget has moved.
	is(t, x.List("ann"), api.Resp{Kind: api.List, Items: []api.Item{{UID: "home", Version: 3}}})
	work(t, x, 0, get("b"), api.Resp{Err: api.ErrNone})
	work(t, x, 0, get("a"), api.Resp{Version: 2, Card: ann})
	work(t, x, 0, api.Req{Kind: api.Wait, Col: "home", Token: 2}, api.Resp{Err: api.ErrTimeout})
	work(t, x, 0, api.Req{Kind: api.Delta, Col: "home", Token: 1, Most: 9}, api.Resp{Token: 2}, api.Item{UID: "a", Version: 2, Card: ann})
	x.Create("ann", "away")
	work(t, x, 1, put("a", "name:"+strings.Repeat("n", 9)+"\n"), api.Resp{Err: api.ErrQuota})
	work(t, x, 1, put("a", "name:"+strings.Repeat("n", 8)+"\n"), api.Resp{Token: 5, Version: 5})
	if !x.Apply(0, first, 3) || !x.Apply(0, second, 3) || x.Apply(0, second, 3) {
		t.Error("P27.5: Apply")
	}
	work(t, x, 0, get("b"), api.Resp{Version: 3, Card: first.Card})
	work(t, x, 0, api.Req{Kind: api.Wait, Col: "home", Token: 2}, api.Resp{Token: 3})
	for _, id := range []int{-1, 2, math.MaxInt, math.MinInt} {
		if x.Apply(id, first, 9) {
			t.Errorf("P27.5: Apply at %d", id)
		}
	}
}

func TestDeltaHandsItsItemsBeside(t *testing.T) {
	x := made(t, conf())
	x.Create("ann", "home")
	x.Work(0, put("a", ann))
	x.Work(0, put("b", ann))
	d := api.Req{Kind: api.Delta, Col: "home", Token: 1, Most: 1}
	work(t, x, 0, d, api.Resp{Token: 2, More: true}, api.Item{UID: "a", Version: 2, Card: ann})
	_, items := x.Work(0, d)
	items[0].Card = "changed"
	_ = append(items, api.Item{})
	work(t, x, 0, d, api.Resp{Token: 2, More: true}, api.Item{UID: "a", Version: 2, Card: ann})
	d.Token = 9
	work(t, x, 0, d, api.Resp{Err: api.ErrToken})
}

func TestLocks(t *testing.T) {
	x := made(t, conf())
	x.Create("ann", "home")
	x.Create("ann", "away")
	if !x.Lock(0, 1, false) || x.Lock(0, 2, true) || !x.Lock(1, 2, true) || x.Lock(0, 1, false) {
		t.Error("P27.3: Lock")
	}
	if x.Held(0, 1) != rw.Reads || x.Held(0, 2) != rw.Waits || x.Held(1, 2) != rw.Writes || x.Held(1, 1) != rw.None {
		t.Error("P27.3: Held")
	}
	for _, id := range []int{-1, 2, math.MaxInt, math.MinInt} {
		if x.Lock(id, 1, false) || x.Held(id, 1) != rw.None {
			t.Errorf("P27.3: a lock at %d", id)
		}
		x.Unlock(id, 1, false)
	}
	x.Work(0, api.Req{Kind: api.Drop, Col: "home"})
	// The lock of one that is dropped goes on, so that those in its queue get through.
	x.Unlock(0, 1, false)
	if x.Held(0, 1) != rw.None || x.Held(0, 2) != rw.Writes {
		t.Error("P27.3: Unlock")
	}
}

func TestSleepAndWake(t *testing.T) {
	x := made(t, conf())
	x.Create("ann", "home")
	if x.Awake(5) {
		t.Error("P27.5: Awake of one who does not sleep")
	}
	x.Sleep(5, 0, 3)
	x.Sleep(6, 0, 9)
	x.Sleep(7, 1, 9)
	x.Sleep(5, 1, 0)
	if x.Awake(5) {
		t.Error("P27.5: Sleep of one who sleeps already")
	}
	if x.Tick(-1) || !x.Tick(2) || x.Now() != 2 || x.Awake(5) || !x.Tick(1) || !x.Awake(5) || x.Awake(6) {
		t.Error("P27.5: the alarm")
	}
	x.Unlock(0, 99, false)
	if x.Awake(6) {
		t.Error("P27.3: Unlock wakes unasked")
	}
	x.Unlock(0, 99, true)
	if !x.Awake(6) || x.Awake(7) {
		t.Error("P27.3: Unlock wakes those who wait there")
	}
	// Also at an id that is none.
	x.Unlock(1, 99, true)
	if !x.Awake(7) {
		t.Error("P27.3: Unlock at an id that is none")
	}
	x.Rise(6)
	x.Rise(6)
	if x.Awake(6) {
		t.Error("P27.5: Rise")
	}
	x.Sleep(6, 0, 100)
	if x.Awake(6) {
		t.Error("P27.5: Sleep anew")
	}
	x.Unlock(0, 99, true)
	x.Rise(5)
	if x.Awake(5) {
		t.Error("P27.5: Rise of one whose alarm is due")
	}
	x.Sleep(5, -8, 0)
	if !x.Awake(5) || !x.Awake(6) || x.Tick(math.MaxInt) {
		t.Error("P27.5: Awake")
	}
}

func TestTokensUsedUp(t *testing.T) {
	c := conf()
	c.Start = math.MaxInt64 - 2
	x := made(t, c)
	is(t, x.Create("ann", "home"), api.Resp{Kind: api.Create, Token: math.MaxInt64 - 1})
	work(t, x, 0, batch(api.Op{UID: "a", Card: ann}), api.Resp{Token: math.MaxInt64})
	is(t, x.Create("ann", "away"), api.Resp{Kind: api.Create, Err: api.ErrOut})
	is(t, x.Create("bob", "away"), api.Resp{Kind: api.Create, Err: api.ErrOut})
	work(t, x, 0, batch(api.Op{UID: "b", Card: ann}), api.Resp{Err: api.ErrOut})
	work(t, x, 0, put("b", ann), api.Resp{Err: api.ErrOut})
	work(t, x, 0, api.Req{Kind: api.Drop, Col: "home"}, api.Resp{Err: api.ErrOut})
	if !x.Alive(0) || x.Find("ann", "home") != 0 {
		t.Error("P27.4: a Drop that fails")
	}
}

// do asks the core as book is asked.
func do(x *Core, tenant string, q api.Req) api.Resp {
	switch q.Kind {
	case api.Create:
		return x.Create(tenant, q.Col)
	case api.List:
		return x.List(tenant)
	}
	id := x.Find(tenant, q.Col)
	a, items := x.Work(id, q)
	if q.Kind == api.Batch && a.Err == api.OK {
		for _, op := range q.Ops {
			x.Apply(id, op, a.Token)
		}
	}
	a.Items = items
	return a
}

func drawReq(r *rand.Rand, last int64) api.Req {
	name := func() string { return "c" + strconv.Itoa(r.Intn(3)) }
	uid := func() string { return "u" + strconv.Itoa(r.Intn(5)) }
	card := func() string { return "name:" + strings.Repeat("n", 1+r.Intn(15)) + "\n" }
	cond := func() api.Cond {
		return []api.Cond{{}, {}, {}, {Kind: api.Absent}, {Kind: api.Present}, {Kind: api.Exact, Version: 1 + r.Int63n(last+3)}}[r.Intn(6)]
	}
	token := func() int64 { return max(last-r.Int63n(6)+1, 0) * r.Int63n(2) }
	switch r.Intn(10) {
	case 0:
		return api.Req{Kind: api.Create, Col: name()}
	case 1:
		if r.Intn(3) == 0 {
			return api.Req{Kind: api.Drop, Col: name()}
		}
		return api.Req{Kind: api.List}
	case 2, 3:
		return api.Req{Kind: api.Put, Col: name(), UID: uid(), Card: card(), Cond: cond()}
	case 4:
		return api.Req{Kind: api.Delete, Col: name(), UID: uid(), Cond: cond()}
	case 5:
		return api.Req{Kind: api.Get, Col: name(), UID: uid()}
	case 6:
		return api.Req{Kind: api.Wait, Col: name(), Token: token()}
	case 7:
		return api.Req{Kind: api.Delta, Col: name(), Token: token(), Most: 1 + r.Intn(4)}
	}
	q := api.Req{Kind: api.Batch, Col: name()}
	for range 1 + r.Intn(4) {
		op := api.Op{UID: uid(), Cond: cond(), Del: r.Intn(3) == 0}
		if !op.Del {
			op.Card = card()
		}
		q.Ops = append(q.Ops, op)
	}
	return q
}

// Step by step it does what book does.
func TestAgainstBook(t *testing.T) {
	r := rand.New(rand.NewSource(27))
	for range 60 {
		c := conf()
		c.Shards = 1 + r.Intn(16)
		if r.Intn(4) == 0 {
			c.Start = math.MaxInt64 - 40
		}
		x := made(t, c)
		b, _ := book.New(c)
		for range 300 {
			tenant := []string{"ann", "bob", "a"}[r.Intn(3)]
			q := drawReq(r, min(b.Counter(), math.MaxInt64-9))
			if got, want := do(x, tenant, q), b.Do(tenant, q); !same(got, want) {
				t.Fatalf("P27.6: %q, %+v: %+v, not %+v", tenant, q, got, want)
			}
			if x.Counter() != b.Counter() {
				t.Fatalf("P27.6: Counter %d, not %d", x.Counter(), b.Counter())
			}
		}
	}
}
