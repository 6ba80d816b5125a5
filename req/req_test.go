package req

import (
	"bytes"
	"math"
	"math/rand"
	"reflect"
	"strings"
	"testing"

	"henhouse/api"
	"henhouse/pack"
)

const ann = "name:Ann\n"

func put(uid string) api.Op { return api.Op{UID: uid, Card: ann} }

func del(uid string) api.Op { return api.Op{Del: true, UID: uid} }

func someOps(n int) []api.Op {
	var l []api.Op
	for i := range n {
		l = append(l, put(string(rune('a'+i))))
	}
	return l
}

// good is a request of each kind with all that it has.
func good() []api.Req {
	exact := api.Cond{Kind: api.Exact, Version: 1 << 40}
	return []api.Req{
		{Kind: api.Hello, Tenant: "ann"},
		{Kind: api.Create, Col: "home"},
		{Kind: api.Drop, Col: "home"},
		{Kind: api.Put, Col: "home", UID: "u1", Card: ann, Cond: exact},
		{Kind: api.Put, Col: "home", UID: "u1", Card: ann},
		{Kind: api.Delete, Col: "home", UID: "u1", Cond: api.Cond{Kind: api.Present}},
		{Kind: api.Get, Col: "home", UID: "u1"},
		{Kind: api.Batch, Col: "home", Ops: []api.Op{put("a"), {Del: true, UID: "b", Cond: exact}, {UID: "c", Card: ann, Cond: api.Cond{Kind: api.Absent}}}},
		{Kind: api.Batch, Col: "home", Ops: someOps(8)},
		{Kind: api.Batch, Col: "home", Ops: []api.Op{put("a"), put("a")}},
		{Kind: api.Delta, Col: "home", Token: math.MaxInt64, Most: 1000},
		{Kind: api.Delta, Col: "home", Most: 1},
		{Kind: api.Wait, Col: "home", Token: 1 << 33, Ticks: api.MaxTicks},
		{Kind: api.Wait, Col: "home"},
		{Kind: api.List},
		{Kind: api.Bye},
	}
}

func TestCheckTakes(t *testing.T) {
	for _, q := range good() {
		if e := Check(q); e != api.OK {
			t.Errorf("P12.1: %+v: %d", q, e)
		}
		q.Ops = append(make([]api.Op, 0), q.Ops...)
		if e := Check(q); e != api.OK {
			t.Errorf("P0.4, P12.1: an empty list of Ops: %+v: %d", q, e)
		}
	}
}

// Each field that a kind does not have must be zero.
func TestCheckFieldsOfKinds(t *testing.T) {
	has := map[int]string{
		api.Hello: "Tenant", api.Create: "Col", api.Drop: "Col", api.Put: "Col UID Card Cond", api.Delete: "Col UID Cond", api.Get: "Col UID", api.Batch: "Col Ops",
		api.Delta: "Col Token Most", api.Wait: "Col Token Ticks", api.List: "", api.Bye: "",
	}
	full := api.Req{Tenant: "ann", Col: "home", UID: "u1", Card: ann, Cond: api.Cond{Kind: api.Absent}, Ops: someOps(1), Token: 1, Most: 1, Ticks: 1}
	from := reflect.ValueOf(full)
	for _, q := range good() {
		for i := range from.NumField() {
			name := from.Type().Field(i).Name
			if name == "Kind" {
				continue
			}
			x := q
			reflect.ValueOf(&x).Elem().Field(i).Set(from.Field(i))
			want := api.ErrForm
			if strings.Contains(" "+has[q.Kind]+" ", " "+name+" ") {
				want = api.OK
			}
			if e := Check(x); e != want {
				t.Errorf("P12.1: kind %d with %s: %d, not %d", q.Kind, name, e, want)
			}
			if _, e := Encode(x); e != want {
				t.Errorf("P12.2: kind %d with %s: %d, not %d", q.Kind, name, e, want)
			}
		}
	}
}

func TestCheckErrors(t *testing.T) {
	batch := func(l ...api.Op) api.Req { return api.Req{Kind: api.Batch, Col: "home", Ops: l} }
	bad := api.Cond{Kind: api.Exact}
	for i, c := range []struct {
		q api.Req
		e api.Errno
	}{
		{api.Req{}, api.ErrRange},
		{api.Req{Kind: -1, Tenant: "A"}, api.ErrRange},
		{api.Req{Kind: 12}, api.ErrRange},
		{api.Req{Kind: math.MaxInt, Ops: someOps(1)}, api.ErrRange},
		{api.Req{Kind: api.Hello}, api.ErrName},
		{api.Req{Kind: api.Hello, Tenant: "Ann"}, api.ErrName},
		{api.Req{Kind: api.Create}, api.ErrName},
		{api.Req{Kind: api.Drop, Col: "a-"}, api.ErrName},
		{api.Req{Kind: api.Get, Col: "home"}, api.ErrName},
		{api.Req{Kind: api.Get, Col: "home", UID: "a b"}, api.ErrName},
		{api.Req{Kind: api.Get, Col: "home", UID: strings.Repeat("u", 25)}, api.ErrName},
		{api.Req{Kind: api.Get, UID: "u"}, api.ErrName},
		{api.Req{Kind: api.Put, Col: "home", UID: "u"}, api.ErrForm},
		{api.Req{Kind: api.Put, Col: "home", UID: "u", Card: "name:Ann"}, api.ErrForm},
		{api.Req{Kind: api.Put, Col: "home", UID: "u", Card: ann, Cond: bad}, api.ErrForm},
		{api.Req{Kind: api.Put, Col: "home", UID: "", Card: "x", Cond: bad}, api.ErrName},
		{api.Req{Kind: api.Put, Col: "home", UID: "", Card: "x", Most: 1}, api.ErrForm},
		{api.Req{Kind: api.Delete, Col: "home", UID: "u", Cond: api.Cond{Version: 1}}, api.ErrForm},
		{api.Req{Kind: api.Delete, Col: "home", UID: "u", Cond: api.Cond{Kind: 4}}, api.ErrForm},
		{batch(), api.ErrRange},
		{batch(someOps(9)...), api.ErrRange},
		{batch(append(someOps(9), del("-/"))...), api.ErrName},
		{batch(append(someOps(9), api.Op{Del: true, UID: "x", Cond: bad})...), api.ErrForm},
		{batch(append(someOps(9), api.Op{UID: "x"})...), api.ErrForm},
		{batch(put("a"), api.Op{Del: true, UID: "", Card: "x"}), api.ErrForm},
		{batch(put("a"), api.Op{UID: "", Card: "x"}), api.ErrName},
		{batch(put("a"), del("")), api.ErrName},
		{batch(put("a"), api.Op{Del: true, UID: "b", Card: ann}), api.ErrForm},
		{batch(put("a"), api.Op{UID: "b", Card: ann, Cond: bad}), api.ErrForm},
		{api.Req{Kind: api.Batch, Ops: someOps(9)}, api.ErrName},
		{api.Req{Kind: api.Delta, Col: "home"}, api.ErrRange},
		{api.Req{Kind: api.Delta, Col: "home", Most: 1001}, api.ErrRange},
		{api.Req{Kind: api.Delta, Col: "home", Most: -1}, api.ErrRange},
		{api.Req{Kind: api.Delta, Col: "home", Most: 1, Token: -1}, api.ErrRange},
		{api.Req{Kind: api.Delta, Col: "Home", Most: 1001}, api.ErrName},
		{api.Req{Kind: api.Wait, Col: "home", Token: -1}, api.ErrRange},
		{api.Req{Kind: api.Wait, Col: "home", Ticks: -1}, api.ErrRange},
		{api.Req{Kind: api.Wait, Col: "home", Ticks: api.MaxTicks + 1}, api.ErrRange},
		{api.Req{Kind: api.List, Token: -1}, api.ErrForm},
	} {
		if e := Check(c.q); e != c.e {
			t.Errorf("P12.1: case %d: %+v: %d, not %d", i, c.q, e, c.e)
		}
		if b, e := Encode(c.q); len(b) != 0 || e != c.e {
			t.Errorf("P12.2: case %d: % x, %d", i, b, e)
		}
	}
}

func TestWrites(t *testing.T) {
	for k := -2; k < 20; k++ {
		want := k == api.Create || k == api.Drop || k == api.Put || k == api.Delete || k == api.Batch
		if Writes(k) != want {
			t.Errorf("P12.1: Writes(%d) is not %v", k, want)
		}
	}
}

func TestBytes(t *testing.T) {
	for _, c := range []struct {
		q    api.Req
		want string
	}{
		{api.Req{Kind: api.Get, Col: "home", UID: "u1"}, "\x04home\x02u1"},
		{api.Req{Kind: api.Hello, Tenant: "ann"}, "\x03ann"},
		{api.Req{Kind: api.Create, Col: "a"}, "\x01a"},
		{api.Req{Kind: api.Put, Col: "a", UID: "u", Card: ann, Cond: api.Cond{Kind: api.Exact, Version: 300}}, "\x01a\x01u\x09" + ann + "\x03\xf9\x01\x2c"},
		{api.Req{Kind: api.Delete, Col: "a", UID: "u"}, "\x01a\x01u\x00\x00"},
		{api.Req{Kind: api.Batch, Col: "a", Ops: []api.Op{del("x"), put("y")}}, "\x01a\x02\x01\x01x\x00\x00\x00\x01y\x09" + ann + "\x00\x00"},
		{api.Req{Kind: api.Delta, Col: "a", Token: 5, Most: 7}, "\x01a\x05\x07"},
		{api.Req{Kind: api.Wait, Col: "a", Token: 5, Ticks: 248}, "\x01a\x05\xf8\xf8"},
		{api.Req{Kind: api.List}, ""},
		{api.Req{Kind: api.Bye}, ""},
	} {
		if b, e := Encode(c.q); string(b) != c.want || e != api.OK {
			t.Errorf("P12.2: %+v: %q, %d", c.q, b, e)
		}
	}
}

func TestDecodeWhatIsEncoded(t *testing.T) {
	for _, q := range good() {
		b, _ := Encode(q)
		got, e := Decode(q.Kind, b)
		if !reflect.DeepEqual(got, q) || e != api.OK {
			t.Errorf("P12.2, P12.3: %+v: %+v, %d", q, got, e)
		}
		for i := range b {
			if x, e := Decode(q.Kind, b[:i]); !reflect.DeepEqual(x, api.Req{}) || e != api.ErrForm {
				t.Errorf("P12.2: the first %d bytes of %+v: %+v, %d", i, q, x, e)
			}
		}
		if x, e := Decode(q.Kind, append(b, 0)); !reflect.DeepEqual(x, api.Req{}) || e != api.ErrForm {
			t.Errorf("P12.2: a byte behind %+v: %+v, %d", q, x, e)
		}
	}
}

func TestDecodeErrors(t *testing.T) {
	num := func(n int64) string { return string(pack.Num(nil, n)) }
	long := string(pack.Text(nil, strings.Repeat("x", api.MaxFrame)))
	longer := string(pack.Text(nil, strings.Repeat("x", api.MaxFrame+1)))
	op := "\x01\x01x\x00\x00"
	for i, c := range []struct {
		kind int
		b    string
		e    api.Errno
	}{
		{0, "", api.ErrRange},
		{12, "", api.ErrRange},
		{-1, "\x03ann", api.ErrRange},
		{128, "", api.ErrRange},
		{api.Hello, "\x03Ann", api.ErrName},
		{api.Hello, "\x00", api.ErrName},
		{api.Hello, "\xf8\x03ann", api.ErrForm},
		{api.Hello, long, api.ErrName},
		{api.Hello, longer, api.ErrForm},
		{api.Get, "\x01a" + long, api.ErrName},
		{api.Get, "\x01a" + longer, api.ErrForm},
		{api.Put, "\x01a\x01u" + long + "\x00\x00", api.ErrForm},
		{api.Put, "\x01a\x01u\x01x\x00\x00", api.ErrForm},
		{api.Delete, "\x01a\x01u" + num(1<<31-1) + "\x00", api.ErrForm},
		{api.Delete, "\x01a\x01u" + num(1<<31) + "\x00", api.ErrForm},
		{api.Delete, "\x01a\x01u\x03" + num(1<<62), api.OK},
		{api.Delete, "\x01A\x01u\x07\x00", api.ErrName},
		{api.Delete, "\x01A\x01u" + num(1<<31) + "\x00", api.ErrForm},
		{api.Batch, "\x01a\x00", api.ErrRange},
		{api.Batch, "\x01a\x01" + op, api.OK},
		{api.Batch, "\x01a\x09" + strings.Repeat(op, 9), api.ErrRange},
		{api.Batch, "\x01a\x10" + strings.Repeat(op, 16), api.ErrRange},
		{api.Batch, "\x01A\x10" + strings.Repeat(op, 16), api.ErrName},
		{api.Batch, "\x01a\x11" + strings.Repeat(op, 17), api.ErrForm},
		{api.Batch, "\x01a" + num(1<<31-1) + op, api.ErrForm},
		{api.Batch, "\x01a" + num(math.MaxInt64) + op, api.ErrForm},
		{api.Batch, "\x01a\x01\x02\x01x\x00\x00", api.ErrForm},
		{api.Batch, "\x01a\x01" + num(257) + "\x01x\x00\x00", api.ErrForm},
		{api.Batch, "\x01a\x01\x01\x01x" + num(1<<31) + "\x00", api.ErrForm},
		{api.Batch, "\x01a\x01\x01" + longer + "\x00\x00", api.ErrForm},
		{api.Batch, "\x01a\x01\x01" + long + "\x00\x00", api.ErrName},
		{api.Delta, "\x01a" + num(math.MaxInt64) + "\x01", api.OK},
		{api.Delta, "\x01a\x00\x00", api.ErrRange},
		{api.Delta, "\x01a\x00" + num(1<<31-1), api.ErrRange},
		{api.Delta, "\x01a\x00" + num(1<<31), api.ErrForm},
		{api.Wait, "\x01a\x00" + num(1<<31-1), api.ErrRange},
		{api.Wait, "\x01a\x00" + num(1<<31), api.ErrForm},
		{api.Wait, "\x01A\x00" + num(1<<31), api.ErrForm},
		{api.List, "\x00", api.ErrForm},
		{api.Bye, "x", api.ErrForm},
	} {
		q, e := Decode(c.kind, []byte(c.b))
		if e != c.e || e != api.OK && !reflect.DeepEqual(q, api.Req{}) {
			t.Errorf("P12.2: case %d: %+v, %d, not %d", i, q, e, c.e)
		}
	}
}

// Whatever the bytes are: what is decoded is encoded as just these.
func TestDecodedIsEncodedAsTheSame(t *testing.T) {
	r := rand.New(rand.NewSource(12))
	taken := 0
	for range 40000 {
		q := good()[r.Intn(len(good()))]
		b, _ := Encode(q)
		for range r.Intn(3) {
			if len(b) > 0 {
				b[r.Intn(len(b))] = byte(r.Intn(256))
			}
		}
		got, e := Decode(q.Kind, b)
		if e != api.OK {
			continue
		}
		taken++
		if back, e := Encode(got); !bytes.Equal(back, b) || e != api.OK {
			t.Fatalf("P12.3: %q: %q, %d", b, back, e)
		}
	}
	if taken < 1000 {
		t.Errorf("only %d were taken", taken)
	}
}

func TestNewMemory(t *testing.T) {
	b := append(make([]byte, 0, 200), "\x01a\x01\x01\x01x\x00\x00"...)
	q, _ := Decode(api.Batch, b)
	clear(b)
	if q.Col != "a" || q.Ops[0].UID != "x" {
		t.Errorf("P0.4: Decode keeps what it was handed: %+v", q)
	}
	x, _ := Encode(q)
	y, _ := Encode(q)
	x[0] = 9
	_ = append(x, 1, 2, 3)
	if y[0] != 1 {
		t.Error("P0.4: Encode hands out memory twice")
	}
}
