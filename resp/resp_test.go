package resp

import (
	"bytes"
	"math"
	"math/rand"
	"reflect"
	"strings"
	"testing"

	"henhouse/api"
	"henhouse/pack"
)

func several(n int, it api.Item) []api.Item {
	var l []api.Item
	for range n {
		l = append(l, it)
	}
	return l
}

func good() []api.Resp {
	return []api.Resp{
		{},
		{Kind: api.Get, Err: api.ErrNone},
		{Kind: api.Bye, Err: api.ErrTimeout},
		{Kind: api.Put, Token: math.MaxInt64, Version: math.MaxInt64, Index: 1<<31 - 1},
		{Kind: api.Get, Version: 300, Card: strings.Repeat("x", api.MaxCard)},
		{Kind: api.Batch, Err: api.ErrCond, Index: 7},
		{Kind: api.Delta, Token: 9, More: true, Items: []api.Item{{UID: "a", Version: 3, Card: "name:A\n"}, {UID: "b", Version: 9, Gone: true}, {}}},
		{Kind: api.List, Items: several(MaxItems, api.Item{UID: strings.Repeat("u", api.MaxUID), Version: math.MaxInt64, Card: strings.Repeat("c", 120)})},
	}
}

func TestCheckAndBytes(t *testing.T) {
	for _, r := range good() {
		b, e := Encode(r)
		if e != api.OK || Check(r) != api.OK || len(b) > api.MaxFrame {
			t.Errorf("P13.1, P13.2: %+v: %d, %d, %d bytes", r, e, Check(r), len(b))
		}
		got, e := Decode(128+r.Kind, b)
		if !reflect.DeepEqual(got, r) || e != api.OK {
			t.Errorf("P13.2, P13.3: %+v: %+v, %d", r, got, e)
		}
	}
	for _, c := range []struct {
		r    api.Resp
		want string
	}{
		{Bad(api.Get, api.ErrNone), "\x04\x00\x00\x00\x00\x00\x00"},
		{good()[6], "\x00\x09\x00\x00\x00\x01\x03\x01a\x03\x00\x07name:A\n\x01b\x09\x01\x00\x00\x00\x00\x00"},
		{api.Resp{Kind: api.Put, Err: 15, Token: 248, Version: 2, Card: "c", Index: 300}, "\x0f\xf8\xf8\x02\x01c\xf9\x01\x2c\x00\x00"},
	} {
		if b, e := Encode(c.r); string(b) != c.want || e != api.OK {
			t.Errorf("P13.2: %+v: %q, %d", c.r, b, e)
		}
	}
}

func TestCheckErrors(t *testing.T) {
	card := strings.Repeat("c", api.MaxCard)
	uid := strings.Repeat("u", api.MaxUID)
	for i, c := range []struct {
		r api.Resp
		e api.Errno
	}{
		{api.Resp{Kind: -1}, api.ErrRange},
		{api.Resp{Kind: api.Bye + 1}, api.ErrRange},
		{api.Resp{Kind: math.MaxInt}, api.ErrRange},
		{api.Resp{Err: -1}, api.ErrRange},
		{api.Resp{Err: 16}, api.ErrRange},
		{api.Resp{Token: -1}, api.ErrRange},
		{api.Resp{Version: math.MinInt64}, api.ErrRange},
		{api.Resp{Index: -1}, api.ErrRange},
		{api.Resp{Index: 1 << 31}, api.ErrRange},
		{api.Resp{Items: []api.Item{{}, {Version: -1}}}, api.ErrRange},
		{api.Resp{Items: several(MaxItems, api.Item{})}, api.OK},
		{api.Resp{Items: several(MaxItems+1, api.Item{})}, api.ErrRange},
		{api.Resp{Card: card + "c"}, api.ErrLong},
		{api.Resp{Card: card + "c", Index: -1}, api.ErrRange},
		{api.Resp{Card: card + "c", Items: []api.Item{{Version: -1}}}, api.ErrRange},
		{api.Resp{Items: []api.Item{{Card: card}}}, api.OK},
		{api.Resp{Items: []api.Item{{}, {Card: card + "c"}}}, api.ErrLong},
		{api.Resp{Items: []api.Item{{UID: uid}}}, api.OK},
		{api.Resp{Items: []api.Item{{UID: uid + "u"}}}, api.ErrLong},
		{api.Resp{Items: several(22, api.Item{Card: card})}, api.OK},
		{api.Resp{Items: several(23, api.Item{Card: card})}, api.ErrLong},
		{api.Resp{Items: several(MaxItems, api.Item{UID: uid, Card: card})}, api.ErrLong},
	} {
		if e := Check(c.r); e != c.e {
			t.Errorf("P13.1: case %d: %d, not %d", i, e, c.e)
		}
		if b, e := Encode(c.r); e != c.e || e != api.OK && len(b) != 0 {
			t.Errorf("P13.2: case %d: %d bytes, %d, not %d", i, len(b), e, c.e)
		}
	}
}

// Just MaxFrame bytes are taken, and not one more.
func TestLongestBytes(t *testing.T) {
	at := func(n int) api.Resp {
		r := api.Resp{Items: several(22, api.Item{Card: strings.Repeat("c", 895)})}
		b, _ := Encode(r)
		r.Card = strings.Repeat("x", n-len(b))
		return r
	}
	r := at(api.MaxFrame)
	if b, e := Encode(r); len(b) != api.MaxFrame || e != api.OK {
		t.Errorf("P13.1: %d bytes, %d", len(b), e)
	}
	r.Card += "x"
	if e := Check(r); e != api.ErrLong {
		t.Errorf("P13.1: a byte more: %d", e)
	}
}

func TestBad(t *testing.T) {
	for _, k := range []int{-5, 0, api.Get, 99} {
		if r := Bad(k, api.ErrForm); !reflect.DeepEqual(r, api.Resp{Kind: k, Err: api.ErrForm}) {
			t.Errorf("P13.1: Bad(%d): %+v", k, r)
		}
	}
}

func TestDecodeErrors(t *testing.T) {
	num := func(n int64) string { return string(pack.Num(nil, n)) }
	text := func(n int) string { return string(pack.Text(nil, strings.Repeat("x", n))) }
	none := "\x00\x00\x00\x00\x00\x00\x00"
	for i, c := range []struct {
		kind int
		b    string
		e    api.Errno
	}{
		{127, none, api.ErrRange},
		{140, none, api.ErrRange},
		{-1, none, api.ErrRange},
		{api.Get, none, api.ErrRange},
		{127, "", api.ErrRange},
		{140, "", api.ErrRange},
		{math.MaxInt, "", api.ErrRange},
		{128, none, api.OK},
		{139, none, api.OK},
		{128, "", api.ErrForm},
		{128, none[1:], api.ErrForm},
		{128, none + "\x00", api.ErrForm},
		{128, "\x10" + none[1:], api.ErrRange},
		{128, num(1<<31-1) + none[1:], api.ErrRange},
		{128, num(1<<31) + none[1:], api.ErrForm},
		{128, num(math.MaxInt64) + none[1:], api.ErrForm},
		{128, "\x00" + num(math.MaxInt64) + "\x00\x00\x00\x00\x00", api.OK},
		{128, "\x00\x00\x00" + text(900) + "\x00\x00\x00", api.OK},
		{128, "\x00\x00\x00" + text(901) + "\x00\x00\x00", api.ErrLong},
		{128, "\x00\x00\x00" + text(api.MaxFrame) + "\x00\x00\x00", api.ErrLong},
		{128, "\x00\x00\x00" + text(api.MaxFrame+1) + "\x00\x00\x00", api.ErrForm},
		{128, "\x00\x00\x00\x00" + num(1<<31-1) + "\x00\x00", api.OK},
		{128, "\x00\x00\x00\x00" + num(1<<31) + "\x00\x00", api.ErrForm},
		{128, "\x00\x00\x00\x00\x00\x01\x00", api.OK},
		{128, "\x00\x00\x00\x00\x00\x02\x00", api.ErrForm},
		{128, "\x00\x00\x00\x00\x00" + num(256) + "\x00", api.ErrForm},
		{128, "\x00\x00\x00\x00\x00\x00" + num(1<<31-1), api.ErrForm},
		{128, "\x00\x00\x00\x00\x00\x00" + num(1<<31), api.ErrForm},
		{128, "\x00\x00\x00\x00\x00\x00\x01", api.ErrForm},
		{128, "\x00\x00\x00\x00\x00\x00\x01\x00\x00\x00\x00", api.OK},
		{128, "\x00\x00\x00\x00\x00\x00\x02\x00\x00\x00\x00", api.ErrForm},
		{128, "\x00\x00\x00\x00\x00\x00\x01\x00\x00\x02\x00", api.ErrForm},
		{128, "\x00\x00\x00\x00\x00\x00\x01" + text(24) + "\x00\x01\x00", api.OK},
		{128, "\x00\x00\x00\x00\x00\x00\x01" + text(25) + "\x00\x01\x00", api.ErrLong},
		{128, "\x00\x00\x00\x00\x00\x00\x01" + text(api.MaxFrame+1) + "\x00\x01\x00", api.ErrForm},
		{128, "\x00\x00\x00\x00\x00\x00\x64" + strings.Repeat("\x00", 400), api.OK},
		{128, "\x00\x00\x00\x00\x00\x00\x65" + strings.Repeat("\x00", 404), api.ErrRange},
		{128, "\x00\x00\x00\x00\x00\x00\x65" + strings.Repeat("\x00", 405), api.ErrForm},
		{128, "\x10\x00\x00" + text(901) + "\x00\x00\x00", api.ErrRange},
	} {
		r, e := Decode(c.kind, []byte(c.b))
		if e != c.e || e != api.OK && !reflect.DeepEqual(r, api.Resp{}) {
			t.Errorf("P13.2: case %d: %+v, %d, not %d", i, r, e, c.e)
		}
	}
}

func TestDecodedIsEncodedAsTheSame(t *testing.T) {
	r := rand.New(rand.NewSource(13))
	taken := 0
	for range 30000 {
		a := good()[r.Intn(7)]
		b, _ := Encode(a)
		for range r.Intn(3) {
			b[r.Intn(len(b))] = byte(r.Intn(256))
		}
		got, e := Decode(128+a.Kind, b)
		if e != api.OK {
			continue
		}
		taken++
		if back, e := Encode(got); !bytes.Equal(back, b) || e != api.OK {
			t.Fatalf("P13.3: %q: %q, %d", b, back, e)
		}
	}
	if taken < 1000 {
		t.Errorf("only %d were taken", taken)
	}
}

func TestNewMemory(t *testing.T) {
	b, _ := Encode(good()[6])
	a, _ := Decode(128+api.Delta, b)
	clear(b)
	if !reflect.DeepEqual(a, good()[6]) {
		t.Errorf("P0.4: Decode keeps what it was handed: %+v", a)
	}
}
