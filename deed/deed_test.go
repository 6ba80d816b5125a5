package deed

import (
	"math"
	"testing"

	"henhouse/api"
	"henhouse/col"
	"henhouse/quota"
)

func budget(t *testing.T) *quota.Budget {
	t.Helper()
	b, e := quota.New(api.Quota{Cols: 1, Cards: 2, Bytes: 10, Log: 2})
	if e != api.OK {
		t.Fatal(e)
	}
	return b
}

func TestCreateGivesBackWhereTokensAreOut(t *testing.T) {
	b := budget(t)
	out := From(math.MaxInt64)
	if a := Create(b, out); a.Err != api.ErrOut || b.Cols() != 0 || out.Last() != math.MaxInt64 {
		t.Errorf("%+v, %d collections", a, b.Cols())
	}
	n := From(6)
	if a := Create(b, n); a.Token != 7 || a.Err != api.OK || b.Cols() != 1 || n.Last() != 7 {
		t.Errorf("%+v, %d collections", a, b.Cols())
	}
	if a := Create(b, out); a.Err != api.ErrQuota || b.Cols() != 1 {
		t.Errorf("%+v, %d collections", a, b.Cols())
	}
}

func TestPlanAppliesNothing(t *testing.T) {
	b, n, c := budget(t), From(0), col.New(0, 2, 2)
	q := api.Req{Kind: api.Batch, Col: "home", Ops: []api.Op{{UID: "a", Card: "xyz"}, {UID: "b", Card: "xyz"}}}
	if a := Plan(c, b, n, q); a.Token != 1 || a.Version != 0 || b.Bytes() != 6 || c.Len() != 0 {
		t.Errorf("%+v, %d bytes, %d cards", a, b.Bytes(), c.Len())
	}
	if a := Plan(c, b, n, q); a.Err != api.ErrQuota || a.Index != 1 || b.Bytes() != 6 || n.Last() != 1 {
		t.Errorf("%+v, %d bytes", a, b.Bytes())
	}
	if a := Write(c, b, n, api.Req{Kind: api.Put, UID: "a", Card: "xyzz"}); a.Token != 2 || a.Version != 2 || b.Bytes() != 10 || c.Latest() != 2 {
		t.Errorf("%+v, %d bytes, Latest %d", a, b.Bytes(), c.Latest())
	}
	if a := Write(c, b, n, api.Req{Kind: api.Delete, UID: "a"}); a.Token != 3 || a.Version != 0 || b.Bytes() != 6 || c.Len() != 0 {
		t.Errorf("%+v, %d bytes, %d cards", a, b.Bytes(), c.Len())
	}
}
