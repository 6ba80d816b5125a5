package client

import (
	"reflect"
	"slices"
	"strings"
	"testing"

	"henhouse/api"
	"henhouse/frame"
	"henhouse/req"
	"henhouse/resp"
)

const ann = "name:Ann\n"

func raw(kind int, body string) string {
	b, _ := frame.Put(nil, frame.Frame{Kind: kind, Body: body})
	return string(b)
}

func framed(t *testing.T, q api.Req) string {
	t.Helper()
	b, e := req.Encode(q)
	if e != api.OK {
		t.Fatalf("%+v: %d", q, e)
	}
	return raw(q.Kind, string(b))
}

func answer(t *testing.T, a api.Resp) string {
	t.Helper()
	b, e := resp.Encode(a)
	if e != api.OK {
		t.Fatalf("%+v: %d", a, e)
	}
	return raw(128+a.Kind, string(b))
}

func got(t *testing.T, c *Client, a api.Resp, busy bool) {
	t.Helper()
	n := len(c.Told())
	if e := c.Got(answer(t, a)); e != api.OK || c.Busy() != busy || len(c.Told()) != n+1 || !reflect.DeepEqual(c.Told()[n], a) {
		t.Errorf("P31.2: %+v: %d, Busy %v, %+v", a, e, c.Busy(), c.Told())
	}
}

func asked(t *testing.T, c *Client, b string, q api.Req) {
	t.Helper()
	if b != framed(t, q) || !c.Busy() {
		t.Errorf("P31.1: %q, not %+v; Busy %v", b, q, c.Busy())
	}
}

func broken(t *testing.T, c *Client) {
	t.Helper()
	n, cards := len(c.Told()), c.Replica().Cards()
	if e := c.Got(""); e != api.ErrForm {
		t.Errorf("P31.2: Got of one that is broken: %d", e)
	}
	if e := c.Got(answer(t, api.Resp{Kind: api.Hello})); e != api.ErrForm {
		t.Errorf("P31.2: Got of one that is broken: %d", e)
	}
	if c.Hello() != "" || c.Make() != "" || c.Sync(1) != "" || c.Save("u", ann) != "" || c.Erase("u") != "" || c.Wait(1) != "" {
		t.Error("P31.1: one that is broken asks")
	}
	if len(c.Told()) != n || !slices.Equal(c.Replica().Cards(), cards) {
		t.Error("P31.2: one that is broken goes on")
	}
}

func items(l ...api.Item) api.Resp { return api.Resp{Kind: api.Delta, Token: 9, Items: l} }

// synced is a client that has a card u of version 7, and Token 9.
func synced(t *testing.T) *Client {
	t.Helper()
	c := New("ann", "home")
	c.Sync(5)
	got(t, c, items(api.Item{UID: "u", Version: 7, Card: ann}), false)
	return c
}

func TestNew(t *testing.T) {
	c := New("ann", "home")
	if c.Busy() || len(c.Told()) != 0 || c.Replica().Token() != 0 || len(c.Replica().Cards()) != 0 || c.Got("") != api.OK {
		t.Error("P31.1: New")
	}
}

func TestWhatItAsks(t *testing.T) {
	c := New("ann", "home")
	asked(t, c, c.Hello(), api.Req{Kind: api.Hello, Tenant: "ann"})
	got(t, c, api.Resp{Kind: api.Hello}, false)
	asked(t, c, c.Make(), api.Req{Kind: api.Create, Col: "home"})
	got(t, c, api.Resp{Kind: api.Create, Token: 1}, false)
	asked(t, c, c.Save("u", ann), api.Req{Kind: api.Put, Col: "home", UID: "u", Card: ann, Cond: api.Cond{Kind: api.Absent}})
	got(t, c, api.Resp{Kind: api.Put, Token: 2, Version: 2}, false)
	asked(t, c, c.Erase("u"), api.Req{Kind: api.Delete, Col: "home", UID: "u", Cond: api.Cond{Kind: api.Present}})
	got(t, c, api.Resp{Kind: api.Delete, Err: api.ErrNone}, false)
	asked(t, c, c.Wait(77), api.Req{Kind: api.Wait, Col: "home", Ticks: 77})
	got(t, c, api.Resp{Kind: api.Wait, Token: 2}, false)
	asked(t, c, c.Sync(1000), api.Req{Kind: api.Delta, Col: "home", Most: 1000})
	got(t, c, items(api.Item{UID: "u", Version: 7, Card: ann}), false)
	asked(t, c, c.Save("u", ann), api.Req{Kind: api.Put, Col: "home", UID: "u", Card: ann, Cond: api.Cond{Kind: api.Exact, Version: 7}})
	got(t, c, api.Resp{Kind: api.Put, Err: api.ErrCond}, false)
	asked(t, c, c.Erase("u"), api.Req{Kind: api.Delete, Col: "home", UID: "u", Cond: api.Cond{Kind: api.Exact, Version: 7}})
	got(t, c, api.Resp{Kind: api.Delete, Token: 10}, false)
	asked(t, c, c.Wait(0), api.Req{Kind: api.Wait, Col: "home", Token: 9})
	got(t, c, api.Resp{Kind: api.Wait, Err: api.ErrTimeout}, false)
	asked(t, c, c.Sync(1), api.Req{Kind: api.Delta, Col: "home", Token: 9, Most: 1})
	got(t, c, api.Resp{Kind: api.Delta, Token: 10, Items: []api.Item{{UID: "u", Version: 10, Gone: true}}}, false)
	if len(c.Replica().Cards()) != 0 || c.Replica().Token() != 10 {
		t.Errorf("P31.2: %v", c.Replica().Cards())
	}
}

func TestNotAsked(t *testing.T) {
	c := New("ann", "home")
	if c.Save("", ann) != "" || c.Save("u", "Ann") != "" || c.Erase("a b") != "" || c.Sync(0) != "" || c.Sync(1001) != "" || c.Wait(-1) != "" || c.Wait(api.MaxTicks+1) != "" || c.Busy() {
		t.Error("P31.1: what req.Check does not take is asked")
	}
	if x := New("Ann", ""); x.Hello() != "" || x.Make() != "" || x.Sync(1) != "" || x.Busy() {
		t.Error("P31.1: names that may not be")
	}
	c.Make()
	for _, b := range []string{c.Hello(), c.Make(), c.Sync(1), c.Save("u", ann), c.Erase("u"), c.Wait(1)} {
		if b != "" || !c.Busy() {
			t.Error("P31.1: one that is busy asks")
		}
	}
	got(t, c, api.Resp{Kind: api.Create, Token: 1}, false)
}

func TestGotInPieces(t *testing.T) {
	c := New("ann", "home")
	c.Sync(5)
	b := answer(t, items(api.Item{UID: "u", Version: 7, Card: ann}))
	for i := range len(b) - 1 {
		if e := c.Got(b[i : i+1]); e != api.OK || !c.Busy() || len(c.Told()) != 0 {
			t.Fatalf("P31.2: byte %d: %d", i, e)
		}
	}
	if e := c.Got(b[len(b)-1:] + "\x00\x00"); e != api.OK || c.Busy() || len(c.Replica().Cards()) != 1 {
		t.Errorf("P31.2: the last byte: %d", e)
	}
	c.Hello()
	a := answer(t, api.Resp{Kind: api.Hello})
	if e := c.Got(a[2:]); e != api.OK || c.Busy() || len(c.Told()) != 2 {
		t.Errorf("P31.2: the next one: %d", e)
	}
}

func TestKindZero(t *testing.T) {
	for _, ask := range []func(*Client) string{(*Client).Hello, func(c *Client) string { return c.Sync(3) }} {
		c := synced(t)
		ask(c)
		got(t, c, resp.Bad(0, api.ErrRange), false)
		if c.Replica().Token() != 9 {
			t.Error("P31.2: an answer of Kind 0 is folded")
		}
		ask(c)
		got(t, c, api.Resp{}, false)
	}
}

func TestBreaks(t *testing.T) {
	hello := answer(t, api.Resp{Kind: api.Hello})
	turned := []byte(hello)
	turned[len(turned)-1]++
	for i, b := range []string{
		"\xff\xff\xff", string(turned), raw(api.Hello, ""), raw(127, ""), raw(140, ""), raw(128+api.Hello, "\x00"), raw(128+api.Hello, "\x10\x00\x00\x00\x00\x00\x00"),
		answer(t, api.Resp{Kind: api.Get}), answer(t, items()),
	} {
		c := New("ann", "home")
		c.Hello()
		if e := c.Got(b); e != api.ErrForm || !c.Busy() || len(c.Told()) != 0 {
			t.Errorf("P31.2: case %d: %d, Busy %v, %v", i, e, c.Busy(), c.Told())
		}
		broken(t, c)
	}
	for _, b := range []string{hello, answer(t, api.Resp{})} {
		c := New("ann", "home")
		if e := c.Got(b); e != api.ErrForm || len(c.Told()) != 0 {
			t.Errorf("P31.2: what was not asked for: %d", e)
		}
		broken(t, c)
	}
	// What is ahead of what is wrong is told; what is behind is not looked at.
	c := New("ann", "home")
	c.Hello()
	if e := c.Got(hello + hello + hello); e != api.ErrForm || len(c.Told()) != 1 || c.Busy() {
		t.Errorf("P31.2: a second answer: %d, %v", e, c.Told())
	}
	broken(t, c)
}

func TestFolds(t *testing.T) {
	c := synced(t)
	c.Sync(5)
	got(t, c, resp.Bad(api.Delta, api.ErrNone), false)
	if c.Replica().Token() != 9 || len(c.Replica().Cards()) != 1 {
		t.Error("P31.2: another error is folded")
	}
	c.Sync(5)
	got(t, c, resp.Bad(api.Delta, api.ErrToken), false)
	if c.Replica().Token() != 0 || len(c.Replica().Cards()) != 0 {
		t.Error("P31.2: ErrToken is not folded")
	}
	for i, a := range []api.Resp{
		{Kind: api.Delta, Token: 8},
		items(api.Item{UID: "u", Version: 9}),
		items(api.Item{UID: "u", Version: 10}, api.Item{UID: "u", Version: 11}),
	} {
		c := synced(t)
		c.Sync(5)
		if e := c.Got(answer(t, a)); e != api.ErrForm || len(c.Told()) != 2 || !reflect.DeepEqual(c.Told()[1], a) || c.Busy() {
			t.Errorf("P31.2: case %d: %d, %+v", i, e, c.Told())
		}
		if c.Replica().Token() != 9 || len(c.Replica().Cards()) != 1 {
			t.Errorf("P31.2: case %d: what Fold does not take changes the replica", i)
		}
		broken(t, c)
	}
	// The replica is the one that the client goes on with.
	c = synced(t)
	c.Sync(5)
	if e := c.Replica().Fold(9, api.Resp{Kind: api.Delta, Token: 20}); e != api.OK {
		t.Fatal(e)
	}
	if e := c.Got(answer(t, api.Resp{Kind: api.Delta, Token: 21})); e != api.ErrForm || c.Replica().Token() != 20 {
		t.Errorf("P31.1: %d, %d", e, c.Replica().Token())
	}
}

func TestToldIsNewMemory(t *testing.T) {
	c := synced(t)
	l := c.Told()
	l[0].Items[0].Card = "changed"
	l[0].Err = 9
	if l := c.Told(); l[0].Items[0].Card != ann || l[0].Err != api.OK || c.Replica().Cards()[0].Card != ann {
		t.Error("P0.4: Told hands out its memory")
	}
}

func TestLongAnswers(t *testing.T) {
	c := New("ann", "home")
	c.Sync(5)
	var l []api.Item
	for i := range 20 {
		l = append(l, api.Item{UID: strings.Repeat("u", i+1), Version: 3, Card: strings.Repeat("c", 900)})
	}
	got(t, c, items(l...), false)
	if len(c.Replica().Cards()) != 20 {
		t.Error("P31.2: a long answer")
	}
}
