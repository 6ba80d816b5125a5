package hist

import (
	"math"
	"reflect"
	"slices"
	"testing"

	"henhouse/api"
)

const ann = "name:Ann\n"

func conf() api.Conf {
	return api.Conf{Conns: 2, Start: 5, Room: api.MaxFrame + 6, Shards: 1, Quota: api.Quota{Cols: 2, Cards: 3, Bytes: 40, Log: 4}}
}

func ev(kind, conn, seq int, q api.Req, a api.Resp) api.Event {
	if kind == api.Invoked {
		a = api.Resp{}
	} else {
		a.Kind = q.Kind
	}
	return api.Event{Kind: kind, Conn: conn, Seq: seq, Tenant: "ann", Req: q, Resp: a}
}

var (
	hello  = api.Req{Kind: api.Hello, Tenant: "ann"}
	create = api.Req{Kind: api.Create, Col: "home"}
	put    = api.Req{Kind: api.Put, Col: "home", UID: "u", Card: ann}
	get    = api.Req{Kind: api.Get, Col: "home", UID: "u"}
	delta  = api.Req{Kind: api.Delta, Col: "home", Most: 9}
	wait   = api.Req{Kind: api.Wait, Col: "home", Token: 99}
	batch  = api.Req{Kind: api.Batch, Col: "home", Ops: []api.Op{{UID: "v", Card: ann}, {UID: "w", Card: ann}}}
	bye    = api.Req{Kind: api.Bye}
)

// good is a run of two connections whose points are in order.
func good() []api.Event {
	token := func(n int64) api.Resp { return api.Resp{Token: n} }
	items := api.Resp{Token: 7, Items: []api.Item{{UID: "u", Version: 7, Card: ann}}}
	return []api.Event{
		ev(api.Invoked, 0, 1, hello, api.Resp{}),
		ev(api.Committed, 0, 1, hello, api.Resp{}),
		ev(api.Answered, 0, 1, hello, api.Resp{}),
		ev(api.Invoked, 1, 1, put, api.Resp{}),
		ev(api.Invoked, 0, 2, create, api.Resp{}),
		ev(api.Committed, 0, 2, create, token(6)),
		ev(api.Committed, 1, 1, put, api.Resp{Token: 7, Version: 7}),
		ev(api.Answered, 0, 2, create, token(6)),
		ev(api.Invoked, 0, 3, delta, api.Resp{}),
		ev(api.Committed, 0, 3, delta, items),
		ev(api.Answered, 1, 1, put, api.Resp{Token: 7, Version: 7}),
		ev(api.Invoked, 1, 2, batch, api.Resp{}),
		ev(api.Committed, 1, 2, batch, token(8)),
		ev(api.Answered, 0, 3, delta, items),
		ev(api.Invoked, 0, 4, wait, api.Resp{}),
		ev(api.Committed, 0, 4, wait, api.Resp{Err: api.ErrTimeout}),
		ev(api.Answered, 0, 4, wait, api.Resp{Err: api.ErrTimeout}),
		ev(api.Invoked, 0, 5, api.Req{Kind: api.Put}, api.Resp{}),
		ev(api.Answered, 0, 5, api.Req{Kind: api.Put}, api.Resp{Err: api.ErrForm}),
		ev(api.Invoked, 0, 6, bye, api.Resp{}),
		ev(api.Committed, 0, 6, bye, api.Resp{}),
	}
}

func checks(t *testing.T, name string, l []api.Event, at int, e api.Errno) {
	t.Helper()
	if gotAt, got := Check(conf(), l); gotAt != at || got != e {
		t.Errorf("P30.2: %s: %d, %d; not %d, %d", name, gotAt, got, at, e)
	}
}

func TestCheckTakes(t *testing.T) {
	checks(t, "nothing", nil, 0, api.OK)
	checks(t, "nothing", []api.Event{}, 0, api.OK)
	l := good()
	for n := range len(l) + 1 {
		checks(t, "a beginning", l[:n], n, api.OK)
	}
	// What was Committed needs no answer yet; what was Wrong has no point.
	far := []api.Event{ev(api.Invoked, math.MinInt, 1, get, api.Resp{}), ev(api.Committed, math.MinInt, 1, get, api.Resp{Err: api.ErrNone})}
	checks(t, "any number of a connection", far, 2, api.OK)
}

func TestCheckConf(t *testing.T) {
	c := conf()
	c.Shards = 0
	if at, e := Check(c, []api.Event{{Kind: 9}}); at != 0 || e != api.ErrRange {
		t.Errorf("P30.2: %d, %d", at, e)
	}
}

func TestCheckForm(t *testing.T) {
	for _, k := range []int{math.MinInt, -1, 0, 4, math.MaxInt} {
		l := good()
		l[6].Kind = k
		checks(t, "a kind that is none", l, 6, api.ErrForm)
	}
	for i, e := range good() {
		for _, d := range []int{-1, 1, 100} {
			l := good()
			l[i].Seq += d
			checks(t, "another Seq", l, i, api.ErrForm)
		}
		twice := slices.Insert(good(), i, e)
		checks(t, "an event twice", twice, i+1, api.ErrForm)
		l := good()
		l[i].Conn = 7
		if e.Kind != api.Invoked || e.Seq != 1 {
			checks(t, "another connection", l, i, api.ErrForm)
		}
	}
	l := slices.Delete(good(), 7, 8)
	checks(t, "an Invoked ahead of an answer", l, 7, api.ErrForm)
	l = slices.Delete(good(), 0, 1)
	checks(t, "a Committed of what was not Invoked", l, 0, api.ErrForm)
	checks(t, "an Answered of what was not Invoked", good()[2:], 0, api.ErrForm)
	l = good()
	l[7], l[5] = l[5], l[7]
	l[6], l[7] = l[7], l[6]
	checks(t, "a Committed behind an Answered", l, 6, api.ErrForm)
	l = good()
	l[7].Resp.Token = 7
	checks(t, "an Answered with another Resp", l, 7, api.ErrForm)
	l = good()
	l[13].Resp.Items = slices.Clone(l[13].Resp.Items)
	l[13].Resp.Items[0].Card = "x"
	checks(t, "an Answered with another Item", l, 13, api.ErrForm)
	// A form that is wrong is told ahead of an answer that is.
	l = good()
	l[6].Seq, l[6].Resp.Token = 3, 9
	checks(t, "Seq and answer", l, 6, api.ErrForm)
	first := []api.Event{ev(api.Committed, 0, 0, hello, api.Resp{}), ev(api.Invoked, 0, 0, hello, api.Resp{})}
	checks(t, "Seq 0", first[:1], 0, api.ErrForm)
	checks(t, "Seq 0", first[1:], 0, api.ErrForm)
}

func TestCheckCond(t *testing.T) {
	for i, e := range good() {
		if e.Kind != api.Committed || e.Req.Kind == api.Hello || e.Req.Kind == api.Bye {
			continue
		}
		for _, change := range []func(*api.Event){
			func(e *api.Event) { e.Resp.Token++ },
			func(e *api.Event) { e.Resp.Kind++ },
			func(e *api.Event) { e.Resp.Err++ },
			func(e *api.Event) { e.Resp.Version++ },
			func(e *api.Event) { e.Resp.Card += "x" },
			func(e *api.Event) { e.Resp.Index++ },
			func(e *api.Event) { e.Resp.More = true },
			func(e *api.Event) { e.Resp.Items = append(slices.Clone(e.Resp.Items), api.Item{}) },
			func(e *api.Event) { e.Tenant = "Bob" },
			func(e *api.Event) { e.Req.Col = "x y" },
		} {
			l := good()
			change(&l[i])
			checks(t, "another answer", l, i, api.ErrCond)
		}
	}
	l := good()
	l[5], l[6] = l[6], l[5]
	checks(t, "another order", l, 5, api.ErrCond)
	l = good()
	l[12].Req.Ops = l[12].Req.Ops[:1]
	l[14].Req.Token, l[15].Req.Token = 7, 7
	checks(t, "a Wait that is over too early", l, 15, api.ErrCond)
}

// What a book never says is taken as it is; it draws no token.
func TestCheckTakesWhatNoBookSays(t *testing.T) {
	closed := good()
	closed[15].Resp.Err, closed[16].Resp.Err = api.ErrClosed, api.ErrClosed
	checks(t, "a Wait with ErrClosed", closed, len(closed), api.OK)
	closed[15].Resp.Token, closed[16].Resp.Token = 3, 3
	checks(t, "a Wait with ErrClosed and a Token", closed, len(closed), api.OK)
	greet := good()
	greet[1].Resp.Token, greet[2].Resp.Token = 7, 7
	checks(t, "any answer of a Hello", greet, len(greet), api.OK)
	greet[20].Resp.Err = api.ErrNone
	checks(t, "any answer of a Bye", greet, len(greet), api.OK)
	l := good()
	l[9].Resp.Err, l[9].Resp.Items, l[9].Resp.Token = api.ErrClosed, nil, 0
	checks(t, "a Delta with ErrClosed", l, 9, api.ErrCond)
}

func TestSame(t *testing.T) {
	full := func() api.Resp {
		return api.Resp{Kind: 1, Err: 2, Token: 3, Version: 4, Card: "c", Index: 5, More: true, Items: []api.Item{{UID: "a", Version: 1, Gone: true, Card: "x"}, {UID: "b"}}}
	}
	if !Same(full(), full()) || !Same(api.Resp{}, api.Resp{Items: []api.Item{}}) || Same(full(), api.Resp{}) {
		t.Error("P30.1: Same")
	}
	for i, change := range []func(*api.Resp){
		func(r *api.Resp) { r.Kind = 9 }, func(r *api.Resp) { r.Err = 9 }, func(r *api.Resp) { r.Token = 9 }, func(r *api.Resp) { r.Version = 9 },
		func(r *api.Resp) { r.Card = "d" }, func(r *api.Resp) { r.Index = 9 }, func(r *api.Resp) { r.More = false }, func(r *api.Resp) { r.Items = r.Items[:1] },
		func(r *api.Resp) { r.Items[0].UID = "z" }, func(r *api.Resp) { r.Items[0].Version = 9 }, func(r *api.Resp) { r.Items[0].Gone = false },
		func(r *api.Resp) { r.Items[1].Card = "z" }, func(r *api.Resp) { r.Items[0], r.Items[1] = r.Items[1], r.Items[0] },
	} {
		x := full()
		change(&x)
		if Same(x, full()) || Same(full(), x) {
			t.Errorf("P30.1: Same, case %d", i)
		}
	}
}

func places(l []api.Event, of []api.Event) []int {
	var p []int
	for _, e := range of {
		p = append(p, slices.IndexFunc(l, func(x api.Event) bool { return reflect.DeepEqual(x, e) }))
	}
	return p
}

func TestOrderAndPending(t *testing.T) {
	l := append(good(), api.Event{Kind: 9, Seq: 9})
	if got := places(l, Order(l)); !slices.Equal(got, []int{1, 5, 6, 9, 12, 15, 20}) {
		t.Errorf("P30.1: Order: %v", got)
	}
	if got := places(l, Pending(l)); !slices.Equal(got, []int{11, 19}) {
		t.Errorf("P30.1: Pending: %v", got)
	}
	if len(Order(nil)) != 0 || len(Pending(nil)) != 0 {
		t.Error("P30.1: of nothing")
	}
	// An answer counts only behind what was asked, by that connection, with that Seq.
	odd := []api.Event{
		ev(api.Answered, 0, 1, get, api.Resp{}), ev(api.Invoked, 0, 1, get, api.Resp{}), ev(api.Invoked, 0, 2, get, api.Resp{}), ev(api.Invoked, 1, 2, get, api.Resp{}),
		ev(api.Committed, 0, 2, get, api.Resp{}), ev(api.Answered, 1, 2, get, api.Resp{}), ev(api.Invoked, 1, 2, put, api.Resp{}),
	}
	if got := places(odd, Pending(odd)); !slices.Equal(got, []int{1, 2, 6}) {
		t.Errorf("P30.1: Pending: %v", got)
	}
}

func TestNewMemory(t *testing.T) {
	l := good()
	kept := good()
	for _, e := range append(Order(l), Pending(l)...) {
		for i := range e.Req.Ops {
			e.Req.Ops[i].UID = "changed"
		}
		for i := range e.Resp.Items {
			e.Resp.Items[i].UID = "changed"
		}
	}
	if !reflect.DeepEqual(l, kept) || l[11].Req.Ops[0].UID != "v" {
		t.Error("P0.4: memory is shared")
	}
}
