package play

import (
	"math"
	"math/rand"
	"reflect"
	"slices"
	"strings"
	"testing"

	"henhouse/api"
	"henhouse/frame"
	"henhouse/hist"
	"henhouse/req"
	"henhouse/resp"
	"henhouse/server"
)

const ann = "name:Ann\n"

func conf() api.Conf {
	return api.Conf{Conns: 2, Room: api.MaxFrame + 6, Shards: 1, Quota: api.Quota{Cols: 2, Cards: 3, Bytes: 400, Log: 4}}
}

func allBytes() string {
	b := make([]byte, 256)
	for i := range b {
		b[i] = byte(i)
	}
	return string(b)
}

func lines() []struct {
	act  api.Act
	line string
} {
	return []struct {
		act  api.Act
		line string
	}{
		{api.Act{Kind: api.Open}, "open\n"},
		{api.Act{Kind: api.Stop}, "stop\n"},
		{api.Act{Kind: api.Send}, "send 0 -\n"},
		{api.Act{Kind: api.Send, Conn: 12, Bytes: "\x00\x1f\xa0\xff"}, "send 12 001fa0ff\n"},
		{api.Act{Kind: api.Send, Conn: 999999, Bytes: "-"}, "send 999999 2d\n"},
		{api.Act{Kind: api.Half}, "half 0\n"},
		{api.Act{Kind: api.Half, Conn: 7}, "half 7\n"},
		{api.Act{Kind: api.Pick, Conn: 100}, "pick 100\n"},
		{api.Act{Kind: api.Tick}, "tick 0\n"},
		{api.Act{Kind: api.Tick, N: 999999}, "tick 999999\n"},
		{api.Act{Kind: api.Take, Conn: 3, N: 40}, "take 3 40\n"},
		{api.Act{Kind: api.Take}, "take 0 0\n"},
	}
}

func TestShowAndParse(t *testing.T) {
	var all []api.Act
	text := ""
	for _, c := range lines() {
		if s, e := Show([]api.Act{c.act}); s != c.line || e != api.OK {
			t.Errorf("P32.1: Show(%+v): %q, %d", c.act, s, e)
		}
		if l, at, e := Parse(c.line); !slices.Equal(l, []api.Act{c.act}) || at != 0 || e != api.OK {
			t.Errorf("P32.1: Parse(%q): %+v, %d, %d", c.line, l, at, e)
		}
		all = append(all, c.act)
		text += c.line
	}
	if s, e := Show(all); s != text || e != api.OK {
		t.Errorf("P32.1: Show: %q, %d", s, e)
	}
	if l, at, e := Parse(text); !slices.Equal(l, all) || at != 0 || e != api.OK {
		t.Errorf("P32.1: Parse: %+v, %d, %d", l, at, e)
	}
	if s, e := Show(nil); s != "" || e != api.OK {
		t.Errorf("P32.1: Show of nothing: %q, %d", s, e)
	}
	if l, at, e := Parse(""); len(l) != 0 || at != 0 || e != api.OK {
		t.Errorf("P32.1: Parse of nothing: %+v, %d, %d", l, at, e)
	}
	every := []api.Act{{Kind: api.Send, Bytes: allBytes()}}
	s, _ := Show(every)
	if l, _, e := Parse(s); !slices.Equal(l, every) || e != api.OK {
		t.Errorf("P32.1: all bytes: %+v, %d", l, e)
	}
}

func TestShowRefuses(t *testing.T) {
	for _, a := range []api.Act{
		{}, {Kind: 8}, {Kind: -1}, {Kind: math.MaxInt},
		{Kind: api.Open, Conn: 1}, {Kind: api.Open, N: 1}, {Kind: api.Open, Bytes: "x"}, {Kind: api.Stop, Conn: 1}, {Kind: api.Stop, N: 1}, {Kind: api.Stop, Bytes: "x"},
		{Kind: api.Send, N: 1}, {Kind: api.Send, Conn: -1}, {Kind: api.Send, Conn: 1000000}, {Kind: api.Half, N: 1}, {Kind: api.Half, Bytes: "x"}, {Kind: api.Half, Conn: math.MinInt},
		{Kind: api.Pick, N: 1}, {Kind: api.Pick, Bytes: "x"}, {Kind: api.Pick, Conn: 1000000}, {Kind: api.Tick, Conn: 1}, {Kind: api.Tick, Bytes: "x"}, {Kind: api.Tick, N: -1},
		{Kind: api.Tick, N: 1000000}, {Kind: api.Take, Bytes: "x"}, {Kind: api.Take, N: -1}, {Kind: api.Take, Conn: -1}, {Kind: api.Take, N: math.MaxInt},
	} {
		if s, e := Show([]api.Act{{Kind: api.Open}, a}); s != "" || e != api.ErrRange {
			t.Errorf("P32.1: Show(%+v): %q, %d", a, s, e)
		}
	}
}

func TestParseRefuses(t *testing.T) {
	for _, line := range []string{
		"\n", " \n", "open", "open \n", " open\n", "Open\n", "opens\n", "open 1\n", "open\r\n", "stop 0\n", "foo\n", "foo 1\n",
		"send\n", "send 1\n", "send 1 \n", "send  1 -\n", "send 1  -\n", "send 1 - \n", "send 1 --\n", "send 1 0\n", "send 1 012\n", "send 1 0G\n", "send 1 AA\n", "send 1 0 1\n", "send 1 -0\n",
		"send 1 0-\n", "send - 01\n", "send 01 01\n", "send 1000000 01\n", "send -1 01\n", "send +1 01\n", "send 1 01",
		"half\n", "half \n", "half 1 \n", "half 00\n", "half 1_0\n", "half 0x1\n", "half 1.0\n", "half 99999999999999999999999\n", "half a\n",
		"pick\n", "pick 1 2\n", "pick 1\t\n", "pick\t1\n", "tick\n", "tick -1\n", "tick -0\n", "tick 1 2\n", "tick 1000000\n", "take\n", "take 1\n", "take 1 \n", "take 1 2 3\n", "take 1 02\n", "take 1 -\n", "\x00\n", "send 1 \xff\xff\n",
	} {
		if l, at, e := Parse(line); len(l) != 0 || at != 0 || e != api.ErrForm {
			t.Errorf("P32.1: Parse(%q): %+v, %d, %d", line, l, at, e)
		}
		ahead := "open\npick 0\n"
		if l, at, e := Parse(ahead + line + "open\nfoo\n"); len(l) != 0 || at != len(ahead) || e != api.ErrForm {
			t.Errorf("P32.1: Parse(%q), behind others: %+v, %d, %d", line, l, at, e)
		}
	}
	if _, at, e := Parse("open\nopen"); at != 5 || e != api.ErrForm {
		t.Errorf("P32.1: a last line without its end: %d, %d", at, e)
	}
}

func framed(t *testing.T, q api.Req) string {
	t.Helper()
	body, e := req.Encode(q)
	if e != api.OK {
		t.Fatalf("%+v: %d", q, e)
	}
	b, _ := frame.Put(nil, frame.Frame{Kind: q.Kind, Body: string(body)})
	return string(b)
}

func answer(t *testing.T, a api.Resp) string {
	t.Helper()
	body, e := resp.Encode(a)
	if e != api.OK {
		t.Fatalf("%+v: %d", a, e)
	}
	b, _ := frame.Put(nil, frame.Frame{Kind: 128 + a.Kind, Body: string(body)})
	return string(b)
}

func ran(t *testing.T, l []api.Act, turns int) Outcome {
	t.Helper()
	o, e := Run(conf(), l, turns)
	if e != api.OK {
		t.Fatalf("P32.2: Run: %d", e)
	}
	return o
}

func TestRunErrors(t *testing.T) {
	bad := conf()
	bad.Conns = 0
	for _, x := range []struct {
		c     api.Conf
		turns int
		e     api.Errno
	}{{bad, 0, api.ErrRange}, {conf(), -1, api.ErrRange}, {conf(), 10001, api.ErrRange}, {conf(), math.MinInt, api.ErrRange}, {conf(), 0, api.OK}, {conf(), 10000, api.OK}} {
		o, e := Run(x.c, []api.Act{{Kind: api.Open}}, x.turns)
		if e != x.e || e != api.OK && !reflect.DeepEqual(o, Outcome{}) {
			t.Errorf("P32.2: %d turns: %+v, %d", x.turns, o, e)
		}
	}
}

func TestExample(t *testing.T) {
	l, _, _ := Parse("open\npick 0\n")
	o := ran(t, l, 0)
	if !slices.Equal(o.Did, []bool{true, false}) || !slices.Equal(o.States, []int{server.Idle}) || !slices.Equal(o.Out, []string{""}) || len(o.Events) != 0 {
		t.Errorf("P32.2: %+v", o)
	}
	o = ran(t, nil, 5)
	if len(o.Did) != 0 || len(o.States) != 0 || len(o.Out) != 0 || len(o.Events) != 0 {
		t.Errorf("P32.2: of nothing: %+v", o)
	}
}

func TestTurns(t *testing.T) {
	hello, create := framed(t, api.Req{Kind: api.Hello, Tenant: "ann"}), framed(t, api.Req{Kind: api.Create, Col: "home"})
	acts := []api.Act{{Kind: api.Open}, {Kind: api.Open}, {Kind: api.Open}, {Kind: api.Send, Conn: 0, Bytes: hello + create}, {Kind: api.Send, Conn: 1, Bytes: hello}, {Kind: 77}, {Kind: api.Take, Conn: 5, N: 1}, {Kind: api.Take, Conn: -1, N: 1}}
	did := []bool{true, true, false, true, true, false, false, false}
	first, second := answer(t, api.Resp{Kind: api.Hello}), answer(t, api.Resp{Kind: api.Create, Token: 1})
	for turns, want := range []struct {
		out    []string
		states []int
		events int
	}{
		{[]string{"", ""}, []int{server.Idle, server.Idle}, 0},
		{[]string{"", ""}, []int{server.Answers, server.Answers}, 4},
		{[]string{first, first}, []int{server.Idle, server.Idle}, 6},
		{[]string{first, first}, []int{server.Busy, server.Idle}, 7},
		{[]string{first, first}, []int{server.Answers, server.Idle}, 8},
		{[]string{first + second, first}, []int{server.Idle, server.Idle}, 9},
		{[]string{first + second, first}, []int{server.Idle, server.Idle}, 9},
	} {
		o := ran(t, acts, turns)
		if !slices.Equal(o.Out, want.out) || !slices.Equal(o.States, want.states) || len(o.Events) != want.events || !slices.Equal(o.Did, did) {
			t.Errorf("P32.2: %d turns: %q, %v, %d events, %v", turns, o.Out, o.States, len(o.Events), o.Did)
		}
	}
}

// What acts take is in Out, too; what one who has ended was answered is taken by the turns.
func TestTakes(t *testing.T) {
	hello, bye := framed(t, api.Req{Kind: api.Hello, Tenant: "ann"}), framed(t, api.Req{Kind: api.Bye})
	pick := api.Act{Kind: api.Pick}
	acts := []api.Act{{Kind: api.Open}, {Kind: api.Send, Bytes: hello + bye}, pick, pick, {Kind: api.Take, N: 3}, {Kind: api.Take, N: 0}, pick, pick, {Kind: api.Take, N: 5}, {Kind: api.Open}, {Kind: api.Tick, N: 4}, {Kind: api.Stop}, {Kind: api.Open}}
	all := answer(t, api.Resp{Kind: api.Hello}) + answer(t, api.Resp{Kind: api.Bye})
	o := ran(t, acts, 0)
	if !slices.Equal(o.Out, []string{all[:8], ""}) || !slices.Equal(o.States, []int{server.Ended, server.Idle}) {
		t.Errorf("P32.2: %q, %v", o.Out, o.States)
	}
	if !slices.Equal(o.Did, []bool{true, true, true, true, true, false, true, true, true, true, true, true, false}) {
		t.Errorf("P32.2: %v", o.Did)
	}
	o = ran(t, acts, 1)
	if !slices.Equal(o.Out, []string{all, ""}) || !slices.Equal(o.States, []int{server.Ended, server.Ended}) {
		t.Errorf("P32.2: %q, %v", o.Out, o.States)
	}
}

// In a turn each is picked once, from 0 on.
func TestPicksFromZeroOn(t *testing.T) {
	hello := framed(t, api.Req{Kind: api.Hello, Tenant: "ann"})
	o := ran(t, []api.Act{{Kind: api.Open}, {Kind: api.Open}, {Kind: api.Send, Conn: 1, Bytes: hello}, {Kind: api.Send, Conn: 0, Bytes: hello}}, 2)
	var conns []int
	for _, e := range o.Events {
		conns = append(conns, e.Conn)
	}
	if !slices.Equal(conns, []int{0, 0, 1, 1, 0, 1}) {
		t.Errorf("P32.2: %v", conns)
	}
}

func draw(r *rand.Rand) api.Req {
	q := api.Req{Kind: []int{api.Create, api.Put, api.Delete, api.Get, api.Batch, api.Delta, api.List, api.Drop}[r.Intn(8)], Col: "home"}
	switch q.Kind {
	case api.List:
		q.Col = ""
	case api.Put:
		q.Card = ann
		q.UID = "u"
	case api.Get, api.Delete:
		q.UID = "u"
	case api.Batch:
		q.Ops = []api.Op{{UID: "u", Card: ann}, {UID: "v", Card: ann}}
	case api.Delta:
		q.Most = 5
	}
	return q
}

// With turns enough each request that is no Wait is Answered; what is written as lines runs as it did.
func TestEnoughTurns(t *testing.T) {
	r := rand.New(rand.NewSource(32))
	for range 100 {
		acts := []api.Act{{Kind: api.Open}, {Kind: api.Open}}
		asked := 2
		for i := range 2 {
			acts = append(acts, api.Act{Kind: api.Send, Conn: i, Bytes: framed(t, api.Req{Kind: api.Hello, Tenant: []string{"ann", "bob"}[r.Intn(2)]})})
		}
		for range 60 {
			a := api.Act{Kind: 1 + r.Intn(6), Conn: r.Intn(2), N: r.Intn(30)}
			switch a.Kind {
			case api.Open:
				a.Conn, a.N = 0, 0
			case api.Send:
				a.N, a.Bytes = 0, framed(t, draw(r))
				asked++
			case api.Half:
				a.Kind, a.N = api.Pick, 0
			case api.Pick:
				a.N = 0
			case api.Tick:
				a.Conn = 0
			}
			acts = append(acts, a)
		}
		o := ran(t, acts, 400)
		n := 0
		for _, e := range o.Events {
			if e.Kind == api.Answered {
				n++
			}
		}
		if n != asked || len(hist.Pending(o.Events)) != 0 {
			t.Fatalf("P32.3: %d of %d are answered", n, asked)
		}
		s, e := Show(acts)
		if e != api.OK {
			t.Fatalf("P32.1: %d", e)
		}
		back, _, _ := Parse(s)
		if again := ran(t, back, 400); !reflect.DeepEqual(again, o) {
			t.Fatal("P0.5: the same script comes out otherwise")
		}
		if strings.Count(s, "\n") != len(acts) {
			t.Fatal("P32.1: a line each")
		}
	}
}
