package copies

import (
	"reflect"
	"testing"

	"henhouse/api"
)

func TestEventsShareNothing(t *testing.T) {
	l := []api.Event{
		{Kind: api.Invoked, Req: api.Req{Kind: api.Batch, Ops: []api.Op{{UID: "a"}, {UID: "b"}}}},
		{Kind: api.Answered, Resp: api.Resp{Kind: api.Delta, Items: []api.Item{{UID: "a"}, {UID: "b"}}}},
		{Kind: api.Committed},
	}
	got := Events(l, func(e api.Event) bool { return e.Kind != api.Committed })
	if !reflect.DeepEqual(got, l[:2]) {
		t.Errorf("%+v", got)
	}
	got[0].Req.Ops[0].UID, got[1].Resp.Items[1].UID, got[0].Conn = "x", "x", 9
	_ = append(got[0].Req.Ops[:1], api.Op{UID: "y"})
	if l[0].Req.Ops[0].UID != "a" || l[0].Req.Ops[1].UID != "b" || l[1].Resp.Items[1].UID != "b" || l[0].Conn != 0 {
		t.Errorf("memory is shared: %+v", l)
	}
}
