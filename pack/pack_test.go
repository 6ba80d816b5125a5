package pack

import (
	"bytes"
	"math"
	"math/rand"
	"strings"
	"testing"

	"henhouse/api"
)

func TestNum(t *testing.T) {
	for _, c := range []struct {
		n    int64
		want []byte
	}{
		{0, []byte{0}},
		{247, []byte{247}},
		{248, []byte{248, 248}},
		{250, []byte{0xf8, 0xfa}},
		{255, []byte{248, 255}},
		{256, []byte{249, 1, 0}},
		{300, []byte{0xf9, 1, 0x2c}},
		{65535, []byte{249, 255, 255}},
		{65536, []byte{250, 1, 0, 0}},
		{1 << 24, []byte{251, 1, 0, 0, 0}},
		{1 << 32, []byte{252, 1, 0, 0, 0, 0}},
		{1 << 40, []byte{253, 1, 0, 0, 0, 0, 0}},
		{1 << 48, []byte{254, 1, 0, 0, 0, 0, 0, 0}},
		{1 << 56, []byte{255, 1, 0, 0, 0, 0, 0, 0, 0}},
		{math.MaxInt64, []byte{255, 127, 255, 255, 255, 255, 255, 255, 255}},
		{-1, nil},
		{math.MinInt64, nil},
	} {
		if got := Num(nil, c.n); !bytes.Equal(got, c.want) {
			t.Errorf("P10.1: Num(nil, %d): % x", c.n, got)
		}
		if got := Num([]byte("ab"), c.n); !bytes.Equal(got, append([]byte("ab"), c.want...)) {
			t.Errorf("P10.1: Num(ab, %d): % x", c.n, got)
		}
		if c.n < 0 {
			continue
		}
		r := Read(c.want)
		if n := r.Num(); n != c.n || r.Err() != api.OK || r.Left() != 0 {
			t.Errorf("P10.2: Num of % x: %d, %d, %d left", c.want, n, r.Err(), r.Left())
		}
	}
}

func TestText(t *testing.T) {
	for _, s := range []string{"", "a", "\x00\xff", strings.Repeat("x", 247), strings.Repeat("x", 248), strings.Repeat("x", 70000)} {
		b := Text([]byte("ahead"), s)
		if want := string(Num([]byte("ahead"), int64(len(s)))) + s; string(b) != want {
			t.Errorf("P10.1: Text of %d bytes: %d", len(s), len(b))
		}
		r := Read(append(b[5:], "behind"...))
		if got := r.Text(len(s)); got != s || r.Err() != api.OK || r.Left() != 6 {
			t.Errorf("P10.2: Text of %d bytes: %d, %d, %d left", len(s), len(got), r.Err(), r.Left())
		}
	}
}

func TestErrorsOfNum(t *testing.T) {
	for _, c := range []struct {
		b []byte
		e api.Errno
	}{
		{nil, api.ErrShort},
		{[]byte{}, api.ErrShort},
		{[]byte{248}, api.ErrShort},
		{[]byte{249, 1}, api.ErrShort},
		{[]byte{249, 0}, api.ErrShort},
		{[]byte{255, 255, 0, 0, 0, 0, 0, 0}, api.ErrShort},
		{[]byte{248, 0}, api.ErrForm},
		{[]byte{248, 247}, api.ErrForm},
		{[]byte{249, 0, 248}, api.ErrForm},
		{[]byte{250, 0, 1, 0}, api.ErrForm},
		{[]byte{255, 0, 255, 255, 255, 255, 255, 255, 255}, api.ErrForm},
		{[]byte{255, 128, 0, 0, 0, 0, 0, 0, 0}, api.ErrForm},
		{[]byte{255, 255, 255, 255, 255, 255, 255, 255, 255}, api.ErrForm},
	} {
		r := Read(append([]byte{7}, c.b...))
		if r.Num() != 7 || r.Err() != api.OK {
			t.Fatal("P10.2: the number ahead")
		}
		if n := r.Num(); n != 0 || r.Err() != c.e || r.Left() != len(c.b) {
			t.Errorf("P10.2: Num of % x: %d, %d, %d left", c.b, n, r.Err(), r.Left())
		}
		s := Read(c.b)
		if x := s.Text(99); x != "" || s.Err() != c.e || s.Left() != len(c.b) {
			t.Errorf("P10.2: Text of % x: %q, %d, %d left", c.b, x, s.Err(), s.Left())
		}
	}
}

func TestErrorsOfText(t *testing.T) {
	for _, c := range []struct {
		b    string
		most int
		e    api.Errno
	}{
		{"\x03abc", 3, api.OK},
		{"\x03abc", 2, api.ErrLong},
		{"\x03abc", 0, api.ErrLong},
		{"\x03abc", -1, api.ErrLong},
		{"\x03abc", math.MinInt, api.ErrLong},
		{"\x03abc", math.MaxInt, api.OK},
		{"\x00", 0, api.OK},
		{"\x03ab", 3, api.ErrShort},
		{"\x03ab", 1, api.ErrShort},
		{"\xf8\xf8abc", 300, api.ErrShort},
		{"\xff\x7f\xff\xff\xff\xff\xff\xff\xffabc", math.MaxInt, api.ErrShort},
	} {
		r := Read([]byte(c.b))
		s := r.Text(c.most)
		if r.Err() != c.e || (c.e == api.OK) != (r.Left() == 0) || c.e != api.OK && (s != "" || r.Left() != len(c.b)) {
			t.Errorf("P10.2: Text(%d) of %q: %q, %d, %d left", c.most, c.b, s, r.Err(), r.Left())
		}
	}
}

// Behind its first error a reader answers nothing, and stays.
func TestFirstErrorStays(t *testing.T) {
	r := Read([]byte("\x05ab"))
	if r.Text(9) != "" || r.Err() != api.ErrShort {
		t.Fatal("P10.2: a short text")
	}
	if r.Num() != 0 || r.Text(99) != "" || r.Err() != api.ErrShort || r.Left() != 3 {
		t.Errorf("P10.2: behind an error: %d, %d left", r.Err(), r.Left())
	}
	r = Read([]byte{248, 0})
	if r.Num(); r.Err() != api.ErrForm {
		t.Fatal("P10.2: a number's form")
	}
	if r.Text(1); r.Err() != api.ErrForm {
		t.Error("P10.2: the first error is told")
	}
}

func TestNewMemory(t *testing.T) {
	b := append(make([]byte, 0, 64), "ab"...)
	behind := b[:64]
	outs := [][]byte{Num(b, 1), Num(b, 300), Num(b, -1), Text(b, "xyz")}
	if !bytes.Equal(behind[2:8], make([]byte, 6)) {
		t.Errorf("P0.4: what lies behind is written: % x", behind[:8])
	}
	for _, o := range outs {
		o[0] = 'z'
		_ = append(o, "QQQQ"...)
	}
	if string(b) != "ab" || string(outs[1]) != "zb\xf9\x01\x2c" {
		t.Errorf("P0.4: memory is shared: %q, %q", b, outs[1])
	}
	in := []byte("\x02hi")
	r := Read(in)
	in[1] = 'X'
	if s := r.Text(2); s != "hi" {
		t.Errorf("P0.4: the reader keeps what it was handed: %q", s)
	}
}

func TestWhatIsPutIsRead(t *testing.T) {
	r := rand.New(rand.NewSource(10))
	for range 500 {
		var b []byte
		var nums []int64
		var texts []string
		for range r.Intn(10) {
			n := r.Int63() >> uint(r.Intn(64))
			s := strings.Repeat("s", r.Intn(300))
			b = Text(Num(b, n), s)
			nums, texts = append(nums, n), append(texts, s)
		}
		got := Read(b)
		for i := range nums {
			if n, s := got.Num(), got.Text(300); n != nums[i] || s != texts[i] {
				t.Fatalf("P10.3: %d, %q, not %d, %q", n, s, nums[i], texts[i])
			}
		}
		if got.Err() != api.OK || got.Left() != 0 {
			t.Fatalf("P10.3: %d, %d left", got.Err(), got.Left())
		}
	}
}
