package sess

import (
	"math/rand"
	"reflect"
	"strings"
	"testing"

	"henhouse/api"
	"henhouse/frame"
	"henhouse/req"
)

func raw(kind int, body string) string {
	b, _ := frame.Put(nil, frame.Frame{Kind: kind, Body: body})
	return string(b)
}

func framed(t *testing.T, q api.Req) string {
	t.Helper()
	b, e := req.Encode(q)
	if e != api.OK {
		t.Fatalf("%+v: %d", q, e)
	}
	return raw(q.Kind, string(b))
}

func hello(name string) api.Req { return api.Req{Kind: api.Hello, Tenant: name} }

func get() api.Req { return api.Req{Kind: api.Get, Col: "home", UID: "u"} }

func next(t *testing.T, s *Sess, want Turn) {
	t.Helper()
	ready, seq := s.Ready(), s.Seq()
	if s.Ready() != ready || s.Seq() != seq {
		t.Error("P26.2: Ready changes something")
	}
	got := s.Next()
	if !reflect.DeepEqual(got, want) || ready != (got.What != Nothing) {
		t.Errorf("P26.2: %+v, Ready %v, not %+v", got, ready, want)
	}
	if want.Seq != 0 && s.Seq() != want.Seq || want.Seq == 0 && s.Seq() != seq {
		t.Errorf("P26.1, P26.2: Seq %d behind %+v", s.Seq(), got)
	}
}

func fed(t *testing.T, s *Sess, b string) {
	t.Helper()
	if !s.Feed(b) {
		t.Errorf("P26.1: Feed of %d bytes", len(b))
	}
}

func TestTurns(t *testing.T) {
	s := New(1000)
	if s.Tenant() != "" || s.Seq() != 0 {
		t.Error("P26.1: New")
	}
	next(t, s, Turn{What: Nothing})
	fed(t, s, framed(t, get()))
	next(t, s, Turn{What: Wrong, Seq: 1, Kind: api.Get, Err: api.ErrState})
	fed(t, s, raw(api.Hello, "\x03Ann"))
	next(t, s, Turn{What: Wrong, Seq: 2, Kind: api.Hello, Err: api.ErrName})
	if s.Tenant() != "" {
		t.Errorf("P26.2: bound to %q", s.Tenant())
	}
	fed(t, s, framed(t, hello("ann")))
	next(t, s, Turn{What: Ask, Seq: 3, Kind: api.Hello, Req: hello("ann")})
	if s.Tenant() != "ann" {
		t.Errorf("P26.1, P26.2: bound to %q", s.Tenant())
	}
	fed(t, s, framed(t, hello("bob"))+framed(t, get())+raw(api.Get, "")+raw(0, "x")+raw(12, "")+raw(255, "")+raw(128+api.Get, ""))
	next(t, s, Turn{What: Wrong, Seq: 4, Kind: api.Hello, Err: api.ErrState})
	next(t, s, Turn{What: Ask, Seq: 5, Kind: api.Get, Req: get()})
	next(t, s, Turn{What: Wrong, Seq: 6, Kind: api.Get, Err: api.ErrForm})
	next(t, s, Turn{What: Wrong, Seq: 7, Err: api.ErrRange})
	next(t, s, Turn{What: Wrong, Seq: 8, Err: api.ErrRange})
	next(t, s, Turn{What: Wrong, Seq: 9, Err: api.ErrRange})
	next(t, s, Turn{What: Wrong, Seq: 10, Err: api.ErrRange})
	next(t, s, Turn{What: Nothing})
	if s.Tenant() != "ann" {
		t.Errorf("P26.2: bound to %q", s.Tenant())
	}
	fed(t, s, framed(t, api.Req{Kind: api.Bye}))
	next(t, s, Turn{What: Ask, Seq: 11, Kind: api.Bye, Req: api.Req{Kind: api.Bye}})
}

// What is wrong in itself is told ahead of a state that is.
func TestErrorsAheadOfState(t *testing.T) {
	s := New(1000)
	fed(t, s, raw(api.Get, "x")+raw(99, ""))
	next(t, s, Turn{What: Wrong, Seq: 1, Kind: api.Get, Err: api.ErrForm})
	next(t, s, Turn{What: Wrong, Seq: 2, Err: api.ErrRange})
	fed(t, s, framed(t, hello("ann"))+raw(api.Hello, "\x01A"))
	next(t, s, Turn{What: Ask, Seq: 3, Kind: api.Hello, Req: hello("ann")})
	next(t, s, Turn{What: Wrong, Seq: 4, Kind: api.Hello, Err: api.ErrName})
}

func TestHalf(t *testing.T) {
	s := New(1000)
	fed(t, s, framed(t, hello("ann"))+"\x00\x00")
	s.Half()
	if s.Feed("x") || s.Feed("") {
		t.Error("P26.1: Feed behind Half")
	}
	next(t, s, Turn{What: Ask, Seq: 1, Kind: api.Hello, Req: hello("ann")})
	next(t, s, Turn{What: Over})
	next(t, s, Turn{What: Over})
	s = New(10)
	s.Half()
	next(t, s, Turn{What: Over})
}

func TestBroken(t *testing.T) {
	for b, e := range map[string]api.Errno{"\xff\xff\xff": api.ErrLong, "\x00\x4e\x21": api.ErrLong, "\x00\x00\x00\x01\x02\x03": api.ErrForm} {
		for _, half := range []bool{false, true} {
			s := New(100)
			fed(t, s, framed(t, hello("ann")))
			s.Next()
			fed(t, s, b+framed(t, get()))
			if half {
				s.Half()
			}
			next(t, s, Turn{What: Broken, Seq: 2, Err: e})
			next(t, s, Turn{What: Over})
			if s.Feed(framed(t, get())) == half {
				t.Errorf("P26.1: Feed behind Broken, half %v", half)
			}
			next(t, s, Turn{What: Over})
			if s.Tenant() != "ann" || s.Seq() != 2 {
				t.Errorf("P26.2: %q, %d", s.Tenant(), s.Seq())
			}
		}
	}
}

func TestRoom(t *testing.T) {
	s := New(10)
	one := framed(t, hello("ann"))
	if len(one) != 10 || s.Feed(one+"x") || !s.Feed(one) || s.Feed("x") {
		t.Error("P26.1: Feed beyond the room")
	}
	next(t, s, Turn{What: Ask, Seq: 1, Kind: api.Hello, Req: hello("ann")})
	fed(t, s, "0123456789")
	if New(0).Feed("x") || New(-5).Feed("x") {
		t.Error("P26.1: Feed of no room")
	}
}

func TestLongestFrame(t *testing.T) {
	s := New(2 * longest)
	long := raw(77, strings.Repeat("x", api.MaxFrame))
	fed(t, s, long[:longest-1])
	next(t, s, Turn{What: Nothing})
	fed(t, s, long[longest-1:]+long)
	next(t, s, Turn{What: Wrong, Seq: 1, Err: api.ErrRange})
	next(t, s, Turn{What: Wrong, Seq: 2, Err: api.ErrRange})
	next(t, s, Turn{What: Nothing})
}

// However the bytes are cut, the turns are the same.
func TestCuts(t *testing.T) {
	r := rand.New(rand.NewSource(26))
	pieces := []string{framed(t, hello("ann")), framed(t, get()), framed(t, api.Req{Kind: api.List}), raw(99, "zz"), raw(api.Put, "\x00"), framed(t, api.Req{Kind: api.Bye})}
	for range 300 {
		b := ""
		for range r.Intn(8) {
			b += pieces[r.Intn(len(pieces))]
		}
		if r.Intn(3) == 0 {
			b += "\x00\x00\x01\x07xQQ" + pieces[0]
		}
		whole := New(4000)
		fed(t, whole, b)
		whole.Half()
		cut := New(4000)
		var turns []Turn
		for len(b) > 0 {
			n := 1 + r.Intn(min(len(b), 5))
			fed(t, cut, b[:n])
			b = b[n:]
			for cut.Ready() {
				x := cut.Next()
				if x.What == Over {
					break
				}
				turns = append(turns, x)
			}
		}
		for i := 0; ; i++ {
			x := whole.Next()
			if x.What == Over {
				if i != len(turns) {
					t.Fatalf("P26.3: %d turns, not %d", len(turns), i)
				}
				break
			}
			if i >= len(turns) || !reflect.DeepEqual(x, turns[i]) {
				t.Fatalf("P26.3: turn %d: %+v", i, x)
			}
		}
		if whole.Tenant() != cut.Tenant() || whole.Seq() != cut.Seq() {
			t.Fatalf("P26.3: %q, %d; %q, %d", whole.Tenant(), whole.Seq(), cut.Tenant(), cut.Seq())
		}
	}
}
