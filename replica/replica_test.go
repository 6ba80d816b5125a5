package replica

import (
	"math"
	"slices"
	"testing"

	"henhouse/api"
)

func delta(token int64, more bool, items ...api.Item) api.Resp {
	return api.Resp{Kind: api.Delta, Token: token, More: more, Items: items}
}

func card(uid string, version int64) api.Item {
	return api.Item{UID: uid, Version: version, Card: uid + "!"}
}

func gone(uid string, version int64) api.Item {
	return api.Item{UID: uid, Version: version, Gone: true}
}

func state(t *testing.T, r *Replica, token int64, more bool, want ...api.Item) {
	t.Helper()
	if r.Token() != token || r.More() != more || !slices.Equal(r.Cards(), want) {
		t.Errorf("P18.1, P18.2: Token %d, More %v, %v; not %d, %v, %v", r.Token(), r.More(), r.Cards(), token, more, want)
	}
}

func TestNew(t *testing.T) {
	r := New()
	state(t, r, 0, false)
	if v, s, ok := r.Get("a"); v != 0 || s != "" || ok {
		t.Errorf("P18.1: Get: %d, %q", v, s)
	}
}

func TestFold(t *testing.T) {
	r := New()
	fold := func(asked int64, a api.Resp) {
		t.Helper()
		if e := r.Fold(asked, a); e != api.OK {
			t.Errorf("P18.2: Fold(%d, %+v): %d", asked, a, e)
		}
	}
	fold(0, delta(6, false, card("a", 6)))
	state(t, r, 6, false, card("a", 6))
	fold(6, delta(6, false))
	state(t, r, 6, false, card("a", 6))
	fold(6, delta(8, true, card("b", 7), card("A", 8)))
	state(t, r, 8, true, card("A", 8), card("a", 6), card("b", 7))
	if v, s, ok := r.Get("b"); v != 7 || s != "b!" || !ok {
		t.Errorf("P18.1: Get: %d, %q, %v", v, s, ok)
	}
	fold(8, delta(12, false, gone("a", 9), gone("zz", 10), card("b", 12)))
	state(t, r, 12, false, card("A", 8), card("b", 12))
	fold(12, api.Resp{Kind: api.Delta, Err: api.ErrToken, Token: 99, More: true, Items: []api.Item{card("x", 1)}})
	state(t, r, 0, false)
	fold(0, delta(0, false))
	state(t, r, 0, false)
	fold(0, delta(0, true, card("a", 5), card("c", 900)))
	state(t, r, 0, true, card("a", 5), card("c", 900))
	// Asked from the beginning on, what it has is gone first.
	fold(0, delta(13, false, card("q", 1), gone("a", 3)))
	state(t, r, 13, false, card("q", 1))
}

func TestFoldErrors(t *testing.T) {
	at := func(token int64) *Replica {
		r := New()
		r.Fold(0, delta(token, true, card("k", 1)))
		return r
	}
	with := func(kind int, e api.Errno) api.Resp { return api.Resp{Kind: kind, Err: e, Token: 9} }
	for i, c := range []struct {
		token, asked int64
		a            api.Resp
		e            api.Errno
	}{
		{5, 5, with(api.Get, api.OK), api.ErrState},
		{5, 5, with(0, api.OK), api.ErrState},
		{5, 5, with(api.Wait, api.ErrToken), api.ErrState},
		{5, 4, delta(9, false), api.ErrState},
		{5, 0, delta(9, false), api.ErrState},
		{5, 6, with(api.Delta, api.ErrToken), api.ErrState},
		{5, 5, with(api.Delta, api.ErrNone), api.ErrState},
		{5, 5, with(api.Delta, api.ErrClosed), api.ErrState},
		{5, 5, with(api.Delta, 99), api.ErrState},
		{5, 5, api.Resp{Kind: api.Delta, Err: api.ErrNone, Token: 1}, api.ErrState},
		{5, 5, delta(4, false), api.ErrForm},
		{5, 5, delta(math.MinInt64, false), api.ErrForm},
		{5, 5, delta(9, false, card("a", 5)), api.ErrForm},
		{5, 5, delta(9, false, card("a", 6), card("b", 0)), api.ErrForm},
		{5, 5, delta(9, false, card("a", 6), card("a", 7)), api.ErrForm},
		{5, 5, delta(9, false, gone("a", 6), card("a", 7)), api.ErrForm},
		{5, 5, delta(9, false, gone("a", 4)), api.ErrForm},
		{0, 0, delta(9, false, card("a", 0)), api.ErrForm},
		{0, 0, delta(9, false, card("a", -1)), api.ErrForm},
		{0, 0, delta(9, false, gone("a", 1), gone("a", 2)), api.ErrForm},
		{0, 0, delta(-1, false), api.ErrForm},
	} {
		r := at(c.token)
		if e := r.Fold(c.asked, c.a); e != c.e {
			t.Errorf("P18.2: case %d: %d, not %d", i, e, c.e)
		}
		state(t, r, c.token, true, card("k", 1))
	}
	r := at(5)
	if e := r.Fold(5, delta(5, false, card("a", math.MaxInt64))); e != api.OK {
		t.Errorf("P18.2: a Token that is the one asked with: %d", e)
	}
}

func TestNewMemory(t *testing.T) {
	r := New()
	a := delta(6, false, card("a", 6), card("b", 6))
	r.Fold(0, a)
	a.Items[0].Card = "changed"
	l := r.Cards()
	l[1].Card = "changed"
	_ = append(l, card("z", 1))
	state(t, r, 6, false, card("a", 6), card("b", 6))
}
