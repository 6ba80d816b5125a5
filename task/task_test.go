package task

import (
	"math"
	"math/rand"
	"reflect"
	"slices"
	"strconv"
	"testing"

	"henhouse/api"
	"henhouse/book"
	"henhouse/core"
	"henhouse/rw"
)

const ann = "name:Ann\n"

func conf() api.Conf {
	return api.Conf{Conns: 12, Room: api.MaxFrame + 6, Shards: 3, Quota: api.Quota{Cols: 4, Cards: 16, Bytes: 1000, Log: 64}}
}

// farm is a core with a collection home of ann.
func farm(t *testing.T) *core.Core {
	t.Helper()
	x, e := core.New(conf())
	if e != api.OK {
		t.Fatal(e)
	}
	if a := x.Create("ann", "home"); a.Err != api.OK {
		t.Fatal(a)
	}
	return x
}

func put(uid string) api.Req {
	return api.Req{Kind: api.Put, Col: "home", UID: uid, Card: ann}
}

func get(uid string) api.Req { return api.Req{Kind: api.Get, Col: "home", UID: uid} }

func drop() api.Req { return api.Req{Kind: api.Drop, Col: "home"} }

func batch(n int) api.Req {
	q := api.Req{Kind: api.Batch, Col: "home"}
	for i := range n {
		q.Ops = append(q.Ops, api.Op{UID: "b" + strconv.Itoa(i), Card: ann})
	}
	return q
}

func delta(token int64) api.Req {
	return api.Req{Kind: api.Delta, Col: "home", Token: token, Most: 1000}
}

func wait(token int64, ticks int) api.Req {
	return api.Req{Kind: api.Wait, Col: "home", Token: token, Ticks: ticks}
}

func same(a, b api.Resp) bool {
	x, y := a, b
	x.Items, y.Items = nil, nil
	return reflect.DeepEqual(x, y) && slices.Equal(a.Items, b.Items)
}

// walk steps through these stages; the point is there behind the step of number point.
func walk(t *testing.T, k *Task, point int, stages ...int) {
	t.Helper()
	for i, s := range stages {
		_, pointed := k.Point()
		_, answered := k.Answer()
		if k.Stage() != s || pointed != (i >= point) || answered != (s == Done) {
			t.Errorf("P28.1, P28.2: ahead of step %d: stage %d, not %d; point %v, answer %v", i+1, k.Stage(), s, pointed, answered)
		}
		if i == len(stages)-1 {
			return
		}
		if !k.Can() || !k.Step() {
			t.Errorf("P28.1: step %d is not gone", i+1)
		}
	}
}

// stuck tells that a task may not go.
func stuck(t *testing.T, k *Task, stage int) {
	t.Helper()
	if k.Can() || k.Step() || k.Stage() != stage {
		t.Errorf("P28.1: a task goes on at stage %d, not at %d", k.Stage(), stage)
	}
}

func answers(t *testing.T, k *Task, want api.Resp) {
	t.Helper()
	a, ok := k.Answer()
	p, pointed := k.Point()
	if !ok || !pointed || !same(a, want) || !same(p, want) {
		t.Errorf("P28.1, P28.2: %+v, %v, not %+v", a, ok, want)
	}
}

func run(t *testing.T, k *Task) api.Resp {
	t.Helper()
	for k.Step() {
	}
	a, ok := k.Answer()
	if !ok {
		t.Fatalf("P28.3: not done at stage %d", k.Stage())
	}
	return a
}

func do(t *testing.T, x *core.Core, who int, q api.Req) api.Resp {
	t.Helper()
	return run(t, Start(x, who, "ann", q))
}

func TestRefused(t *testing.T) {
	x := farm(t)
	for _, q := range []api.Req{{}, {Kind: 99}, {Kind: api.Hello, Tenant: "ann"}, {Kind: api.Bye}, {Kind: api.Get, Col: "home"}, {Kind: api.Put, Col: "home", UID: "u", Card: "x"}, {Kind: api.Delta, Col: "home"}} {
		k := Start(x, 1, "ann", q)
		answers(t, k, api.Resp{Kind: q.Kind, Err: api.ErrState})
		stuck(t, k, Done)
	}
	if x.Counter() != 1 {
		t.Error("P28.1: one who is refused draws a token")
	}
}

func TestCreateAndList(t *testing.T) {
	x := farm(t)
	k := Start(x, 1, "ann", api.Req{Kind: api.Create, Col: "away"})
	walk(t, k, 1, Seek, Done)
	answers(t, k, api.Resp{Kind: api.Create, Token: 2})
	stuck(t, k, Done)
	k = Start(x, 1, "ann", api.Req{Kind: api.Create, Col: "away"})
	walk(t, k, 1, Seek, Done)
	answers(t, k, api.Resp{Kind: api.Create, Err: api.ErrExists})
	k = Start(x, 1, "ann", api.Req{Kind: api.List})
	walk(t, k, 1, Seek, Done)
	answers(t, k, api.Resp{Kind: api.List, Items: []api.Item{{UID: "away", Version: 2}, {UID: "home", Version: 1}}})
}

func TestNoSuchCollection(t *testing.T) {
	x := farm(t)
	for _, q := range []api.Req{put("u"), get("u"), drop(), batch(2), delta(0), wait(0, 5), {Kind: api.Delete, Col: "home", UID: "u"}} {
		k := Start(x, 1, "bob", q)
		walk(t, k, 1, Seek, Done)
		answers(t, k, api.Resp{Kind: q.Kind, Err: api.ErrNone})
	}
}

func TestStagesOfEachKind(t *testing.T) {
	x := farm(t)
	for _, c := range []struct {
		q      api.Req
		want   api.Resp
		stages []int
	}{
		{put("a"), api.Resp{Token: 2, Version: 2}, nil},
		{get("a"), api.Resp{Version: 2, Card: ann}, nil},
		{get("z"), api.Resp{Err: api.ErrNone}, nil},
		{api.Req{Kind: api.Delete, Col: "home", UID: "a"}, api.Resp{Token: 3}, nil},
		{api.Req{Kind: api.Delete, Col: "home", UID: "a"}, api.Resp{Err: api.ErrNone}, nil},
		{batch(1), api.Resp{Token: 4}, []int{Write}},
		{batch(8), api.Resp{Token: 5}, []int{Write, Write, Write, Write, Write, Write, Write, Write}},
		{api.Req{Kind: api.Batch, Col: "home", Ops: []api.Op{{UID: "q", Card: ann}, {Del: true, UID: "z"}}}, api.Resp{Err: api.ErrNone, Index: 1}, nil},
		{wait(4, 9), api.Resp{Token: 5}, nil},
		{wait(5, 0), api.Resp{Err: api.ErrTimeout}, nil},
		{delta(5), api.Resp{Token: 5}, nil},
		{delta(99), api.Resp{Err: api.ErrToken}, nil},
		{drop(), api.Resp{Token: 6}, nil},
	} {
		k := Start(x, 1, "ann", c.q)
		stages := append(append([]int{Seek, Queue, Act}, c.stages...), Free, Done)
		walk(t, k, 3, stages...)
		c.want.Kind = c.q.Kind
		answers(t, k, c.want)
		stuck(t, k, Done)
	}
}

func TestReadCollectsByChunks(t *testing.T) {
	for n := range 12 {
		x := farm(t)
		want := api.Resp{Kind: api.Delta, Token: 1}
		for i := range n {
			uid := "u" + strconv.Itoa(10+i)
			a := do(t, x, 1, put(uid))
			want.Token = a.Token
			want.Items = append(want.Items, api.Item{UID: uid, Version: a.Version, Card: ann})
		}
		k := Start(x, 1, "ann", delta(0))
		stages := []int{Seek, Queue, Act}
		for range (n + api.Chunk - 1) / api.Chunk {
			stages = append(stages, Read)
		}
		walk(t, k, 3, append(stages, Free, Done)...)
		answers(t, k, want)
	}
}

// At its point a batch is drawn, and is not there yet; no other one sees a part of it.
func TestBatchIsSeenWholly(t *testing.T) {
	x := farm(t)
	k := Start(x, 1, "ann", batch(3))
	for k.Stage() != Write {
		k.Step()
	}
	k.Step()
	if p, ok := k.Point(); !ok || p.Token != 2 {
		t.Errorf("P28.1: %+v, %v", p, ok)
	}
	reader := Start(x, 2, "ann", delta(0))
	list := Start(x, 3, "ann", api.Req{Kind: api.List})
	list.Step()
	answers(t, list, api.Resp{Kind: api.List, Items: []api.Item{{UID: "home", Version: 2}}})
	walk(t, reader, 9, Seek, Queue, Act)
	stuck(t, reader, Act)
	k.Step()
	k.Step()
	stuck(t, reader, Act)
	walk(t, k, 0, Free, Done)
	if a := run(t, reader); a.Token != 2 || len(a.Items) != 3 {
		t.Errorf("P28.1: %+v", a)
	}
}

func TestQueueInOrder(t *testing.T) {
	x := farm(t)
	first, second, third, fourth := Start(x, 1, "ann", get("u")), Start(x, 2, "ann", get("u")), Start(x, 3, "ann", put("u")), Start(x, 4, "ann", get("u"))
	for _, k := range []*Task{first, second, third, fourth} {
		walk(t, k, 9, Seek, Queue, Act)
	}
	if x.Held(0, 1) != rw.Reads || x.Held(0, 2) != rw.Reads || x.Held(0, 3) != rw.Waits || x.Held(0, 4) != rw.Waits {
		t.Error("P28.1: the locks that are asked for")
	}
	stuck(t, third, Act)
	stuck(t, fourth, Act)
	if a := run(t, second); a.Err != api.ErrNone {
		t.Errorf("P28.1: %+v", a)
	}
	stuck(t, third, Act)
	run(t, first)
	if x.Held(0, 3) != rw.Writes {
		t.Error("P28.1: a Put is to write")
	}
	stuck(t, fourth, Act)
	run(t, third)
	if a := run(t, fourth); a.Version != 2 {
		t.Errorf("P28.1: %+v", a)
	}
}

func TestLocksOfEachKind(t *testing.T) {
	x := farm(t)
	for _, q := range []api.Req{put("u"), {Kind: api.Delete, Col: "home", UID: "u"}, batch(1), get("u"), delta(0), wait(0, 1), drop()} {
		k := Start(x, 1, "ann", q)
		k.Step()
		k.Step()
		want := rw.Writes
		if q.Kind == api.Get || q.Kind == api.Delta || q.Kind == api.Wait {
			want = rw.Reads
		}
		if x.Held(0, 1) != want {
			t.Errorf("P28.1: kind %d holds %d", q.Kind, x.Held(0, 1))
		}
		run(t, k)
		if x.Held(0, 1) != rw.None {
			t.Errorf("P28.3: kind %d holds it when it is done", q.Kind)
		}
	}
}

// Who stands in the queue of a collection that is dropped seeks it anew.
func TestDroppedWhileQueued(t *testing.T) {
	x := farm(t)
	dropper, a, b := Start(x, 1, "ann", drop()), Start(x, 2, "ann", put("u")), Start(x, 3, "ann", get("u"))
	for _, k := range []*Task{dropper, a, b} {
		walk(t, k, 9, Seek, Queue, Act)
	}
	dropper.Step()
	if x.Find("ann", "home") != -1 {
		t.Error("P28.1: a Drop's point")
	}
	stuck(t, a, Act)
	dropper.Step()
	x.Sleep(77, 0, 1000)
	walk(t, a, 9, Act, Seek)
	if x.Held(0, 2) != rw.None || x.Awake(77) {
		t.Error("P28.1, P28.3: a lock is held in Seek, or somebody is woken")
	}
	walk(t, a, 1, Seek, Done)
	answers(t, a, api.Resp{Kind: api.Put, Err: api.ErrNone})
	// By that name there is another one meanwhile.
	if c := do(t, x, 4, api.Req{Kind: api.Create, Col: "home"}); c.Token != 3 {
		t.Errorf("P28.1: %+v", c)
	}
	walk(t, b, 9, Act, Seek, Queue, Act)
	if x.Held(1, 3) != rw.Reads {
		t.Error("P28.1: the lock of the new one")
	}
	walk(t, b, 1, Act, Free, Done)
	answers(t, b, api.Resp{Kind: api.Get, Err: api.ErrNone})
}

// asleep is a Wait that rests.
func asleep(t *testing.T, x *core.Core, who int, q api.Req) *Task {
	t.Helper()
	k := Start(x, who, "ann", q)
	walk(t, k, 9, Seek, Queue, Act, Free, Rest)
	stuck(t, k, Rest)
	if x.Held(0, who) != rw.None {
		t.Error("P28.3: a lock is held in Rest")
	}
	return k
}

func TestWaitIsWoken(t *testing.T) {
	x := farm(t)
	k := asleep(t, x, 1, wait(2, 100))
	do(t, x, 2, get("u"))
	do(t, x, 2, delta(0))
	do(t, x, 2, wait(0, 0))
	do(t, x, 2, api.Req{Kind: api.Delete, Col: "home", UID: "none"})
	do(t, x, 2, api.Req{Kind: api.Create, Col: "away"})
	stuck(t, k, Rest)
	// A write that it does not wait for wakes it, and it rests again.
	x.Tick(7)
	writer := Start(x, 2, "ann", put("u"))
	for writer.Stage() != Free {
		writer.Step()
	}
	stuck(t, k, Rest)
	writer.Step()
	if p, _ := writer.Point(); p.Token != 3 {
		t.Fatalf("%+v", p)
	}
	walk(t, k, 4, Rest, Seek, Queue, Act, Free, Done)
	answers(t, k, api.Resp{Kind: api.Wait, Token: 3})

	k = asleep(t, x, 1, wait(99, 100))
	do(t, x, 2, batch(2))
	walk(t, k, 9, Rest, Seek, Queue, Act, Free, Rest)
	stuck(t, k, Rest)
	x.Tick(99)
	stuck(t, k, Rest)
	x.Tick(1)
	walk(t, k, 4, Rest, Seek, Queue, Act, Free, Done)
	answers(t, k, api.Resp{Kind: api.Wait, Err: api.ErrTimeout})
}

// A write between a Wait's act and its rest is not missed.
func TestNoWriteSlipsBy(t *testing.T) {
	x := farm(t)
	k := Start(x, 1, "ann", wait(1, 100))
	walk(t, k, 9, Seek, Queue, Act, Free)
	writer := Start(x, 2, "ann", put("u"))
	walk(t, writer, 9, Seek, Queue, Act)
	stuck(t, writer, Act)
	walk(t, k, 9, Free, Rest)
	run(t, writer)
	walk(t, k, 4, Rest, Seek, Queue, Act, Free, Done)
	answers(t, k, api.Resp{Kind: api.Wait, Token: 2})
}

// The deadline counts from the start on, not from when it falls asleep.
func TestDeadline(t *testing.T) {
	x := farm(t)
	x.Tick(10)
	k := Start(x, 1, "ann", wait(1, 5))
	x.Tick(4)
	walk(t, k, 9, Seek, Queue, Act, Free, Rest)
	stuck(t, k, Rest)
	x.Tick(1)
	walk(t, k, 4, Rest, Seek, Queue, Act, Free, Done)
	answers(t, k, api.Resp{Kind: api.Wait, Err: api.ErrTimeout})
	late := Start(x, 1, "ann", wait(1, 5))
	x.Tick(5)
	walk(t, late, 3, Seek, Queue, Act, Free, Done)
	answers(t, late, api.Resp{Kind: api.Wait, Err: api.ErrTimeout})
	// Where there is something, it is told also behind the deadline.
	told := Start(x, 1, "ann", wait(0, 0))
	x.Tick(50)
	if a := run(t, told); a.Token != 1 || a.Err != api.OK {
		t.Errorf("P28.1: %+v", a)
	}
}

func TestDropWakes(t *testing.T) {
	x := farm(t)
	k := asleep(t, x, 1, wait(1, 100))
	do(t, x, 2, drop())
	walk(t, k, 2, Rest, Seek, Done)
	answers(t, k, api.Resp{Kind: api.Wait, Err: api.ErrNone})
}

func TestStop(t *testing.T) {
	x := farm(t)
	k := asleep(t, x, 1, wait(1, 5))
	k.Stop()
	walk(t, k, 4, Rest, Seek, Queue, Act, Free, Done)
	answers(t, k, api.Resp{Kind: api.Wait, Err: api.ErrClosed})
	// Also where its deadline has come.
	k = asleep(t, x, 1, wait(1, 5))
	k.Stop()
	x.Tick(5)
	walk(t, k, 4, Rest, Seek, Queue, Act, Free, Done)
	answers(t, k, api.Resp{Kind: api.Wait, Err: api.ErrClosed})
	// One that was stopped ahead never rests.
	k = Start(x, 1, "ann", wait(1, 0))
	k.Stop()
	walk(t, k, 3, Seek, Queue, Act, Free, Done)
	answers(t, k, api.Resp{Kind: api.Wait, Err: api.ErrClosed})
	// What has come is told, and all others go on as ever.
	for _, c := range []struct {
		q    api.Req
		want api.Resp
	}{{wait(0, 5), api.Resp{Kind: api.Wait, Token: 1}}, {put("u"), api.Resp{Kind: api.Put, Token: 2, Version: 2}}, {delta(1), api.Resp{Kind: api.Delta, Token: 2, Items: []api.Item{{UID: "u", Version: 2, Card: ann}}}}} {
		k := Start(x, 1, "ann", c.q)
		k.Stop()
		run(t, k)
		answers(t, k, c.want)
	}
	// One that was stopped still stands in the queue.
	reader := Start(x, 1, "ann", get("u"))
	reader.Step()
	reader.Step()
	writer := Start(x, 2, "ann", put("u"))
	writer.Step()
	writer.Step()
	writer.Stop()
	stuck(t, writer, Act)
}

func TestMemory(t *testing.T) {
	x := farm(t)
	q := batch(2)
	k := Start(x, 1, "ann", q)
	q.Ops[0].UID = "changed"
	run(t, k)
	if a := do(t, x, 1, get("b0")); a.Err != api.OK {
		t.Error("P0.4: Start keeps what it was handed")
	}
	k = Start(x, 1, "ann", delta(0))
	run(t, k)
	a, _ := k.Answer()
	p, _ := k.Point()
	a.Items[0].UID, p.Items[1].UID = "changed", "changed"
	_ = append(a.Items[:1], api.Item{})
	if again, _ := k.Answer(); again.Items[0].UID != "b0" || again.Items[1].UID != "b1" {
		t.Error("P0.4: an answer is handed out twice")
	}
}

// Whoever is picked: the points, in their order, are such as book answers; each request but a Wait comes to its end.
func TestPointsAreAnOrder(t *testing.T) {
	r := rand.New(rand.NewSource(28))
	for range 150 {
		x, _ := core.New(conf())
		b, _ := book.New(conf())
		tasks := make([]*Task, 6)
		reqs := make([]api.Req, 6)
		asked := 0
		for step := 0; step < 3000; step++ {
			who := r.Intn(len(tasks))
			k := tasks[who]
			if k == nil || k.Stage() == Done {
				if asked < 60 {
					reqs[who] = drawReq(r, x.Counter())
					tasks[who] = Start(x, who, "ann", reqs[who])
					asked++
				}
				continue
			}
			if r.Intn(20) == 0 {
				x.Tick(1)
			}
			_, ahead := k.Point()
			k.Step()
			p, now := k.Point()
			if now && !ahead {
				if want := b.Do("ann", reqs[who]); !same(p, want) {
					t.Fatalf("P0.8: %+v: %+v, not %+v", reqs[who], p, want)
				}
			}
			if x.Counter() != b.Counter() {
				t.Fatalf("P0.8: Counter %d, not %d", x.Counter(), b.Counter())
			}
			checkLocks(t, x, tasks)
		}
		for who, k := range tasks {
			if k != nil && k.Stage() != Done && reqs[who].Kind != api.Wait {
				t.Fatalf("P28.3: %+v is at stage %d", reqs[who], k.Stage())
			}
		}
	}
}

func checkLocks(t *testing.T, x *core.Core, tasks []*Task) {
	t.Helper()
	for who, k := range tasks {
		if k == nil {
			continue
		}
		n := 0
		for id := range 40 {
			if x.Held(id, who) != rw.None {
				n++
			}
		}
		s := k.Stage()
		if n > 1 || n > 0 && (s == Seek || s == Queue || s == Rest || s == Done) {
			t.Fatalf("P28.3: %d locks at stage %d", n, s)
		}
	}
}

func drawReq(r *rand.Rand, last int64) api.Req {
	q := []api.Req{put("u" + strconv.Itoa(r.Intn(4))), get("u" + strconv.Itoa(r.Intn(4))), batch(1 + r.Intn(4)), delta(max(last-int64(r.Intn(4)), 0)), wait(last+int64(r.Intn(3))-1, r.Intn(4)),
		{Kind: api.Delete, UID: "u" + strconv.Itoa(r.Intn(4))}, {Kind: api.Create}, {Kind: api.Create}, {Kind: api.List}, {Kind: api.Drop}}[r.Intn(10)]
	if q.Kind != api.List {
		q.Col = []string{"home", "away"}[r.Intn(2)]
	}
	if q.Token < 0 || math.MaxInt64-q.Token < 9 {
		q.Token = 0
	}
	return q
}

func TestNumbersOfStages(t *testing.T) {
	for i, s := range []int{Seek, Queue, Act, Write, Read, Free, Rest, Done} {
		if s != i+1 {
			t.Errorf("P28.2: stage %d is %d", i+1, s)
		}
	}
}
