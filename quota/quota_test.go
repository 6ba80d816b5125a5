package quota

import (
	"math"
	"testing"

	"henhouse/api"
)

func TestCheckAndNew(t *testing.T) {
	most := api.Quota{Cols: MostCols, Cards: MostCards, Bytes: MostBytes, Log: MostLog}
	with := func(change func(*api.Quota)) api.Quota {
		q := most
		change(&q)
		return q
	}
	for i, c := range []struct {
		q api.Quota
		e api.Errno
	}{
		{most, api.OK},
		{api.Quota{Cols: 8, Cards: 16, Bytes: 1 << 20, Log: 64}, api.OK},
		{api.Quota{Cols: 1, Cards: 1, Bytes: 1, Log: 1}, api.OK},
		{api.Quota{}, api.ErrRange},
		{with(func(q *api.Quota) { q.Cols = 0 }), api.ErrRange},
		{with(func(q *api.Quota) { q.Cols = 9 }), api.ErrRange},
		{with(func(q *api.Quota) { q.Cards = -1 }), api.ErrRange},
		{with(func(q *api.Quota) { q.Cards = 0 }), api.ErrRange},
		{with(func(q *api.Quota) { q.Cards = 17 }), api.ErrRange},
		{with(func(q *api.Quota) { q.Bytes = 0 }), api.ErrRange},
		{with(func(q *api.Quota) { q.Bytes = 1<<20 + 1 }), api.ErrRange},
		{with(func(q *api.Quota) { q.Log = 0 }), api.ErrRange},
		{with(func(q *api.Quota) { q.Log = 65 }), api.ErrRange},
		{with(func(q *api.Quota) { q.Log = math.MinInt }), api.ErrRange},
		{with(func(q *api.Quota) { q.Cols = math.MaxInt }), api.ErrRange},
	} {
		if e := Check(c.q); e != c.e {
			t.Errorf("P16.1: case %d: %d, not %d", i, e, c.e)
		}
		b, e := New(c.q)
		if e != c.e || (b != nil) != (e == api.OK) {
			t.Errorf("P16.1: case %d: New: %v, %d", i, b, e)
		}
		if b != nil && (b.Cols() != 0 || b.Bytes() != 0 || b.Room() != c.q.Bytes) {
			t.Errorf("P16.1: case %d: New is not empty", i)
		}
	}
}

func budget(t *testing.T, cols, bytes int) *Budget {
	t.Helper()
	b, e := New(api.Quota{Cols: cols, Cards: 1, Bytes: bytes, Log: 1})
	if e != api.OK {
		t.Fatal(e)
	}
	return b
}

func TestOpenAndClose(t *testing.T) {
	b := budget(t, 2, 10)
	if !b.Open() || !b.Open() || b.Open() || b.Cols() != 2 {
		t.Errorf("P16.2: %d collections", b.Cols())
	}
	b.Move(7)
	b.Close(3)
	if b.Cols() != 1 || b.Bytes() != 4 || b.Room() != 6 {
		t.Errorf("P16.2: Close(3): %d, %d", b.Cols(), b.Bytes())
	}
	b.Close(-9)
	if b.Cols() != 0 || b.Bytes() != 4 {
		t.Errorf("P16.2: Close(-9): %d, %d", b.Cols(), b.Bytes())
	}
	b.Close(math.MinInt)
	if b.Cols() != 0 || b.Bytes() != 4 {
		t.Errorf("P16.2: Close of no collection: %d, %d", b.Cols(), b.Bytes())
	}
	b.Close(5)
	if b.Cols() != 0 || b.Bytes() != 0 {
		t.Errorf("P16.2: Close of more bytes than there are: %d, %d", b.Cols(), b.Bytes())
	}
	b.Close(math.MaxInt)
	if !b.Open() || !b.Open() || b.Open() || b.Bytes() != 0 {
		t.Error("P16.2: Open behind Close")
	}
}

func TestMove(t *testing.T) {
	b := budget(t, 1, 10)
	for i, c := range []struct {
		n     int
		ok    bool
		bytes int
	}{
		{7, true, 7}, {4, false, 7}, {3, true, 10}, {1, false, 10}, {0, true, 10}, {-4, true, 6}, {math.MaxInt, false, 6}, {math.MinInt, true, 0},
		{-1, true, 0}, {11, false, 0}, {10, true, 10}, {-11, true, 0},
	} {
		if ok := b.Move(c.n); ok != c.ok || b.Bytes() != c.bytes || b.Room() != 10-c.bytes {
			t.Errorf("P16.2, P16.3: step %d: Move(%d): %v, %d bytes", i, c.n, ok, b.Bytes())
		}
	}
}
