// Package deed does what one request asks of one collection: book and core, that find and keep collections in ways of their own, do it alike.
package deed

import (
	"henhouse/api"
	"henhouse/col"
	"henhouse/quota"
)

// Counter draws the tokens.
type Counter struct{ last int64 }

// From is a counter whose first token is the one behind start.
func From(start int64) *Counter { return &Counter{last: start} }

// Last is the last token that was drawn.
func (n *Counter) Last() int64 { return n.last }

func (n *Counter) out() bool { return n.last >= api.MaxToken }

func (n *Counter) draw() int64 {
	n.last++
	return n.last
}

func bad(kind int, e api.Errno) api.Resp { return api.Resp{Kind: kind, Err: e} }

// Create makes place for a collection: its birth is the answer's token.
func Create(b *quota.Budget, n *Counter) api.Resp {
	if !b.Open() {
		return bad(api.Create, api.ErrQuota)
	}
	if n.out() {
		b.Close(0)
		return bad(api.Create, api.ErrOut)
	}
	return api.Resp{Kind: api.Create, Token: n.draw()}
}

// Drop gives back what a collection takes.
func Drop(c *col.Col, b *quota.Budget, n *Counter) api.Resp {
	if n.out() {
		return bad(api.Drop, api.ErrOut)
	}
	b.Close(c.Bytes())
	return api.Resp{Kind: api.Drop, Token: n.draw()}
}

// Ops are the writes of a Put, a Delete, a Batch.
func Ops(q api.Req) []api.Op {
	if q.Kind == api.Batch {
		return q.Ops
	}
	return []api.Op{{Del: q.Kind == api.Delete, UID: q.UID, Card: q.Card, Cond: q.Cond}}
}

// Plan answers a Put, a Delete, a Batch: their token is drawn, the budget has moved, and their ops may be Applied with it.
func Plan(c *col.Col, b *quota.Budget, n *Counter, q api.Req) api.Resp {
	index, grow, e := c.Check(Ops(q), b.Room())
	if e != api.OK {
		return api.Resp{Kind: q.Kind, Err: e, Index: index}
	}
	if n.out() {
		return bad(q.Kind, api.ErrOut)
	}
	b.Move(grow)
	a := api.Resp{Kind: q.Kind, Token: n.draw()}
	if q.Kind == api.Put {
		a.Version = a.Token
	}
	return a
}

// Write is Plan, and all is Applied.
func Write(c *col.Col, b *quota.Budget, n *Counter, q api.Req) api.Resp {
	a := Plan(c, b, n, q)
	if a.Err != api.OK {
		return a
	}
	for _, op := range Ops(q) {
		c.Apply(op, a.Token)
	}
	return a
}

// Look answers a Get, a Delta, a Wait.
func Look(c *col.Col, q api.Req) api.Resp {
	a := api.Resp{Kind: q.Kind}
	switch q.Kind {
	case api.Get:
		version, text, ok := c.Get(q.UID)
		if !ok {
			return bad(q.Kind, api.ErrNone)
		}
		a.Version, a.Card = version, text
	case api.Delta:
		a.Items, a.Token, a.More, a.Err = c.Page(q.Token, q.Most)
	case api.Wait:
		if c.Latest() <= q.Token {
			return bad(q.Kind, api.ErrTimeout)
		}
		a.Token = c.Latest()
	}
	return a
}
