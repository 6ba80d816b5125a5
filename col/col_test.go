package col

import (
	"cmp"
	"math"
	"math/rand"
	"slices"
	"strconv"
	"strings"
	"testing"

	"henhouse/api"
)

func put(uid, card string) api.Op { return api.Op{UID: uid, Card: card} }

func del(uid string) api.Op { return api.Op{Del: true, UID: uid} }

func on(op api.Op, kind int, version int64) api.Op {
	op.Cond = api.Cond{Kind: kind, Version: version}
	return op
}

func must(t *testing.T, c *Col, op api.Op, token int64) {
	t.Helper()
	if !c.Apply(op, token) {
		t.Fatalf("P17.3: Apply(%v, %d)", op, token)
	}
}

func TestNewAndGet(t *testing.T) {
	c := New(5, 2, 3)
	if c.Len() != 0 || c.Bytes() != 0 || c.Latest() != 5 || c.Horizon() != 5 || len(c.Live()) != 0 {
		t.Error("P17.1: New")
	}
	if v, s, ok := c.Get("a"); v != 0 || s != "" || ok {
		t.Errorf("P17.1: Get of none: %d, %q", v, s)
	}
	must(t, c, put("b", "BB"), 6)
	must(t, c, put("a", "A"), 7)
	if v, s, ok := c.Get("b"); v != 6 || s != "BB" || !ok {
		t.Errorf("P17.1: Get: %d, %q, %v", v, s, ok)
	}
	want := []api.Item{{UID: "a", Version: 7, Card: "A"}, {UID: "b", Version: 6, Card: "BB"}}
	if c.Len() != 2 || c.Bytes() != 3 || !slices.Equal(c.Live(), want) {
		t.Errorf("P17.1: %d, %d, %v", c.Len(), c.Bytes(), c.Live())
	}
	for _, n := range []int{math.MinInt, -1, 0} {
		c := New(1, n, n)
		must(t, c, put("a", ""), 1)
		if c.Apply(put("b", ""), 1) {
			t.Errorf("P17.1: %d cards: two are taken", n)
		}
		must(t, c, put("a", "x"), 2)
		must(t, c, put("a", "x"), 3)
		if c.Horizon() != 2 {
			t.Errorf("P17.1: a log of %d: Horizon %d", n, c.Horizon())
		}
	}
}

func TestExample(t *testing.T) {
	c := New(5, 9, 9)
	must(t, c, put("a", "A"), 6)
	must(t, c, del("a"), 7)
	l, e := c.Since(5)
	if !slices.Equal(l, []api.Item{{UID: "a", Version: 7, Gone: true}}) || e != api.OK {
		t.Errorf("P17.4: Since(5): %v, %d", l, e)
	}
	if l, e := c.Since(4); len(l) != 0 || e != api.ErrToken {
		t.Errorf("P17.4: Since(4): %v, %d", l, e)
	}
}

func TestCheck(t *testing.T) {
	c := New(1, 3, 9)
	must(t, c, put("a", "aaaa"), 2)
	must(t, c, put("b", "bb"), 3)
	l := func(ops ...api.Op) []api.Op { return ops }
	for i, x := range []struct {
		ops         []api.Op
		room        int
		index, grow int
		e           api.Errno
	}{
		{nil, 0, 0, 0, api.OK},
		{nil, -9, 0, 0, api.OK},
		{l(put("c", "ccc")), 3, 0, 3, api.OK},
		{l(put("c", "ccc")), 2, 0, 0, api.ErrQuota},
		{l(put("c", "ccc")), math.MinInt, 0, 0, api.ErrQuota},
		{l(put("a", "x")), 0, 0, -3, api.OK},
		{l(put("a", "x")), -3, 0, -3, api.OK},
		{l(put("a", "x")), -4, 0, 0, api.ErrQuota},
		{l(del("a"), put("c", "cccc")), 0, 0, 0, api.OK},
		{l(put("c", "cccc"), del("a")), 0, 0, 0, api.ErrQuota},
		{l(del("a"), del("b")), 0, 0, -6, api.OK},
		{l(put("c", ""), put("d", "")), 99, 1, 0, api.ErrQuota},
		{l(del("a"), put("c", ""), put("d", "")), 99, 0, -4, api.OK},
		{l(put("c", ""), del("a"), put("d", "")), 99, 0, -4, api.OK},
		{l(put("a", ""), put("b", ""), put("c", "")), 99, 0, -6, api.OK},
		{l(put("a", "x"), put("a", "y")), 99, 1, 0, api.ErrTwice},
		{l(del("a"), on(put("a", "y"), api.Absent, 0)), 99, 1, 0, api.ErrTwice},
		{l(put("c", "x"), put("b", "x"), on(del("c"), api.Exact, 77)), 99, 2, 0, api.ErrTwice},
		{l(del("c")), 99, 0, 0, api.ErrNone},
		{l(on(del("c"), api.Present, 0)), 99, 0, 0, api.ErrCond},
		{l(on(del("c"), api.Absent, 0)), 99, 0, 0, api.ErrNone},
		{l(on(put("c", "x"), api.Absent, 0)), 99, 0, 1, api.OK},
		{l(on(put("a", "x"), api.Absent, 0)), -99, 0, 0, api.ErrCond},
		{l(on(put("a", "x"), api.Exact, 2)), 99, 0, -3, api.OK},
		{l(on(put("a", "x"), api.Exact, 3)), 99, 0, 0, api.ErrCond},
		{l(on(put("b", "x"), api.Exact, 3), on(put("a", "x"), 9, 0)), 99, 1, 0, api.ErrCond},
		{l(put("a", "aaaaa"), del("zz"), put("a", "")), 99, 1, 0, api.ErrNone},
		{l(put("b", "bbbb"), put("c", "c"), del("b")), 2, 1, 0, api.ErrQuota},
	} {
		kept := slices.Clone(x.ops)
		index, grow, e := c.Check(x.ops, x.room)
		if index != x.index || grow != x.grow || e != x.e {
			t.Errorf("P17.2: case %d: %d, %d, %d", i, index, grow, e)
		}
		if !slices.Equal(kept, x.ops) || c.Len() != 2 || c.Bytes() != 6 || c.Latest() != 3 {
			t.Errorf("P17.2: case %d changes something", i)
		}
	}
}

func TestApplyRefuses(t *testing.T) {
	c := New(5, 2, 2)
	must(t, c, on(put("a", "A"), api.Present, 0), 7)
	must(t, c, put("b", "B"), 7)
	for i, x := range []struct {
		op    api.Op
		token int64
	}{{put("a", "Z"), 6}, {del("a"), 6}, {del("c"), 8}, {put("c", "C"), 8}, {put("a", "Z"), -1}} {
		if c.Apply(x.op, x.token) || c.Latest() != 7 || c.Len() != 2 || c.Bytes() != 2 || c.Horizon() != 5 {
			t.Errorf("P17.3: case %d is done", i)
		}
	}
	must(t, c, api.Op{Del: true, UID: "a", Card: "of no weight"}, 7)
	if c.Bytes() != 1 || c.Horizon() != 7 || c.Latest() != 7 {
		t.Errorf("P17.3: %d bytes, Horizon %d, Latest %d", c.Bytes(), c.Horizon(), c.Latest())
	}
	must(t, c, put("c", "C"), math.MaxInt64)
	if c.Latest() != math.MaxInt64 {
		t.Errorf("P17.3: Latest %d", c.Latest())
	}
}

// Where its birth is above the log's tokens none may be dropped below it.
func TestHorizonNeverFalls(t *testing.T) {
	c := New(9, 9, 1)
	must(t, c, put("a", ""), 9)
	must(t, c, put("b", ""), 12)
	if c.Horizon() != 9 {
		t.Errorf("P17.3: Horizon %d", c.Horizon())
	}
	must(t, c, put("c", ""), 12)
	if c.Horizon() != 12 {
		t.Errorf("P17.3: Horizon %d", c.Horizon())
	}
}

func TestSinceOfZeroIsByVersion(t *testing.T) {
	c := New(3, 9, 1)
	must(t, c, put("b", "1"), 4)
	must(t, c, put("c", "2"), 5)
	must(t, c, put("a", "3"), 5)
	must(t, c, put("b", "4"), 6)
	must(t, c, put("z", "5"), 7)
	must(t, c, del("z"), 8)
	want := []api.Item{{UID: "a", Version: 5, Card: "3"}, {UID: "c", Version: 5, Card: "2"}, {UID: "b", Version: 6, Card: "4"}}
	if l, e := c.Since(0); !slices.Equal(l, want) || e != api.OK {
		t.Errorf("P17.4: Since(0): %v, %d", l, e)
	}
	items, next, more, e := c.Page(0, 1)
	if !slices.Equal(items, want) || next != 8 || more || e != api.OK {
		t.Errorf("P17.4: Page(0, 1): %v, %d, %v, %d", items, next, more, e)
	}
}

func TestSplit(t *testing.T) {
	items := func(versions ...int64) []api.Item {
		var l []api.Item
		for _, v := range versions {
			l = append(l, api.Item{Version: v})
		}
		return l
	}
	for _, x := range []struct {
		l          []api.Item
		most, want int
	}{
		{nil, 5, 0}, {nil, -1, 0}, {items(1, 2, 3), 2, 2}, {items(1, 2, 3), 0, 1}, {items(1, 2, 3), math.MinInt, 1}, {items(1, 2, 3), 3, 3}, {items(1, 2, 3), math.MaxInt, 3},
		{items(1, 1, 1, 2, 2), 1, 3}, {items(1, 1, 1, 2, 2), 3, 3}, {items(1, 1, 1, 2, 2), 4, 5}, {items(7, 7), 1, 2}, {items(1, 2, 1), 1, 2}, {items(1, 2, 1, 3), 1, 2},
		{items(1, 2, 1, 2), 1, 3}, {items(1, 2, 1, 2, 3), 2, 3}, {items(2, 1, 2), 1, 2},
	} {
		if n := Split(x.l, x.most); n != x.want {
			t.Errorf("P17.4: Split(%v, %d): %d, not %d", x.l, x.most, n, x.want)
		}
	}
}

// model remembers all that was ever done.
type model struct {
	cards  map[string]api.Item
	all    []change
	log    int
	birth  int64
	latest int64
}

func (m *model) horizon() int64 {
	if len(m.all) <= m.log {
		return m.birth
	}
	return m.all[len(m.all)-m.log-1].token
}

func (m *model) since(token int64) []api.Item {
	var l []api.Item
	if token == 0 {
		for _, it := range m.cards {
			l = append(l, it)
		}
	} else {
		last := map[string]int64{}
		for _, ch := range m.all[max(0, len(m.all)-m.log):] {
			if ch.token > token {
				last[ch.uid] = ch.token
			}
		}
		for uid, at := range last {
			it, there := m.cards[uid]
			if !there {
				it = api.Item{UID: uid, Version: at, Gone: true}
			}
			l = append(l, it)
		}
	}
	slices.SortFunc(l, func(a, b api.Item) int {
		return cmp.Or(cmp.Compare(a.Version, b.Version), cmp.Compare(a.UID, b.UID))
	})
	return l
}

func (m *model) apply(op api.Op, token int64) {
	if op.Del {
		delete(m.cards, op.UID)
	} else {
		m.cards[op.UID] = api.Item{UID: op.UID, Version: token, Card: op.Card}
	}
	m.all = append(m.all, change{token, op.UID})
	m.latest = token
}

func TestAgainstAModel(t *testing.T) {
	r := rand.New(rand.NewSource(17))
	for range 150 {
		birth := int64(r.Intn(20))
		most, log := 1+r.Intn(6), 1+r.Intn(8)
		c := New(birth, most, log)
		m := &model{cards: map[string]api.Item{}, log: log, birth: birth, latest: birth}
		for range 60 {
			op := put("u"+strconv.Itoa(r.Intn(8)), strings.Repeat("x", r.Intn(9)))
			op.Del = r.Intn(3) == 0
			token := m.latest + int64(r.Intn(4)) - 1
			_, there := m.cards[op.UID]
			want := token >= m.latest && (!op.Del || there) && (op.Del || there || len(m.cards) < most)
			if c.Apply(op, token) != want {
				t.Fatalf("P17.3: Apply(%v, %d) is not %v", op, token, want)
			}
			if want {
				m.apply(op, token)
			}
			compare(t, c, m)
		}
		follow(t, c, r)
	}
}

func compare(t *testing.T, c *Col, m *model) {
	t.Helper()
	bytes := 0
	for _, it := range m.cards {
		bytes += len(it.Card)
	}
	if c.Len() != len(m.cards) || c.Bytes() != bytes || c.Latest() != m.latest || c.Horizon() != m.horizon() {
		t.Fatalf("P17.1, P17.3: %d cards, %d bytes, Latest %d, Horizon %d, not %d", c.Len(), c.Bytes(), c.Latest(), c.Horizon(), m.horizon())
	}
	for token := int64(-2); token < m.latest+3; token++ {
		want, we := m.since(token), api.OK
		if token != 0 && (token < m.horizon() || token > m.latest) {
			want, we = nil, api.ErrToken
		}
		if l, e := c.Since(token); !slices.Equal(l, want) || e != we {
			t.Fatalf("P17.4: Since(%d): %v, %d, not %v, %d", token, l, e, want, we)
		}
		for _, most := range []int{-1, 1, 2, 4, 1000} {
			items, next, more, e := c.Page(token, most)
			switch n := Split(want, most); {
			case we != api.OK:
				if len(items) != 0 || next != 0 || more || e != we {
					t.Fatalf("P17.4: Page(%d, %d): %v, %d, %v, %d", token, most, items, next, more, e)
				}
			case token == 0 || n == len(want):
				if !slices.Equal(items, want) || next != m.latest || more || e != api.OK {
					t.Fatalf("P17.4: Page(%d, %d): %v, %d, %v, %d", token, most, items, next, more, e)
				}
			default:
				if !slices.Equal(items, want[:n]) || next != want[n-1].Version || !more || e != api.OK {
					t.Fatalf("P17.4: Page(%d, %d): %v, %d, %v, %d", token, most, items, next, more, e)
				}
			}
		}
	}
}

// follow folds page by page, while others write.
func follow(t *testing.T, c *Col, r *rand.Rand) {
	t.Helper()
	own := map[string]api.Item{}
	token := int64(0)
	for step := 0; ; step++ {
		items, next, more, e := c.Page(token, 1+r.Intn(2))
		if e == api.ErrToken {
			clear(own)
			token = 0
			continue
		}
		if token == 0 {
			clear(own)
		}
		for _, it := range items {
			if it.Gone {
				delete(own, it.UID)
			} else {
				own[it.UID] = it
			}
		}
		token = next
		if !more && step > 20 {
			break
		}
		if step < 20 && r.Intn(2) == 0 {
			token := c.Latest() + 1
			for range 1 + r.Intn(3) {
				op := put("u"+strconv.Itoa(r.Intn(8)), "later")
				op.Del = r.Intn(3) == 0
				c.Apply(op, token)
			}
		}
	}
	if token == 0 {
		return
	}
	live := c.Live()
	if len(live) != len(own) || token != c.Latest() {
		t.Fatalf("P17.5: %d cards, not %d; token %d, not %d", len(own), len(live), token, c.Latest())
	}
	for _, it := range live {
		if own[it.UID] != it {
			t.Fatalf("P17.5: %v, not %v", own[it.UID], it)
		}
	}
}

func TestNewMemory(t *testing.T) {
	c := New(1, 5, 5)
	for i := range 5 {
		must(t, c, put("u"+strconv.Itoa(i), "x"), int64(2+i))
	}
	page, _, _, _ := c.Page(1, 2)
	since, _ := c.Since(1)
	live := c.Live()
	for _, l := range [][]api.Item{page, since, live} {
		l[0].Card = "changed"
		_ = append(l, api.Item{UID: "z"}, api.Item{UID: "z"})
	}
	if again, _ := c.Since(1); again[0].Card != "x" || again[2].UID != "u2" || c.Live()[0].Card != "x" {
		t.Error("P0.4: memory is handed out twice")
	}
}
