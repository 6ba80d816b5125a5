package frame

import (
	"bytes"
	"math"
	"math/rand"
	"strings"
	"testing"

	"henhouse/api"
)

// slow is the sum as the document tells it.
func slow(kind int, body string) int {
	first, second := 1, 0
	add := func(x int) {
		for first += x; first >= 256; first -= 256 {
		}
		for second += first; second >= 256; second -= 256 {
		}
	}
	add(((kind % 256) + 256) % 256)
	for i := range len(body) {
		add(int(body[i]))
	}
	return 256*second + first
}

func TestSum(t *testing.T) {
	r := rand.New(rand.NewSource(11))
	bodies := []string{"", "a", "\x00", "\xff\xff", strings.Repeat("\xff", 20000), strings.Repeat("ab", 40000)}
	for range 50 {
		b := make([]byte, r.Intn(300))
		r.Read(b)
		bodies = append(bodies, string(b))
	}
	for _, kind := range []int{0, 1, 127, 128, 255, 256, 257, 1 << 40, -1, -256, math.MinInt, math.MaxInt} {
		for _, body := range bodies {
			if got := Sum(kind, body); got != slow(kind, body) {
				t.Errorf("P11.1: Sum(%d, %d bytes): %d, not %d", kind, len(body), got, slow(kind, body))
			}
		}
	}
	if Sum(1, "") != 0x0202 {
		t.Error("P11.1: Sum(1, empty)")
	}
}

func TestPut(t *testing.T) {
	if b, e := Put(nil, Frame{1, ""}); !bytes.Equal(b, []byte{0, 0, 0, 1, 2, 2}) || e != api.OK {
		t.Errorf("P11.2: % x, %d", b, e)
	}
	if b, e := Put([]byte("ab"), Frame{0, "c"}); !bytes.Equal(b, []byte{'a', 'b', 0, 0, 1, 0, 'c', 0x65, 0x64}) || e != api.OK {
		t.Errorf("P11.2: % x, %d", b, e)
	}
	long := strings.Repeat("x", api.MaxFrame)
	for _, c := range []struct {
		f Frame
		e api.Errno
	}{
		{Frame{255, ""}, api.OK},
		{Frame{0, long}, api.OK},
		{Frame{0, long + "x"}, api.ErrLong},
		{Frame{256, ""}, api.ErrRange},
		{Frame{-1, ""}, api.ErrRange},
		{Frame{256, long + "x"}, api.ErrRange},
		{Frame{math.MaxInt, ""}, api.ErrRange},
	} {
		b, e := Put([]byte("ab"), c.f)
		if e != c.e || e == api.OK && len(b) != 8+len(c.f.Body) || e != api.OK && len(b) != 0 {
			t.Errorf("P11.2: Put of kind %d, %d bytes: %d bytes, %d", c.f.Kind, len(c.f.Body), len(b), e)
		}
	}
}

func TestNextTakesWhatIsPut(t *testing.T) {
	for _, f := range []Frame{{0, ""}, {1, "a"}, {255, "\x00\xff"}, {128, strings.Repeat("y", 255)}, {7, strings.Repeat("y", 256)}, {7, strings.Repeat("z", api.MaxFrame)}} {
		b, _ := Put(nil, f)
		for _, tail := range []string{"", "\x00", "behind", "\xff\xff\xff\xff"} {
			got, n, e := Next(append(bytes.Clone(b), tail...))
			if got != f || n != 6+len(f.Body) || e != api.OK {
				t.Errorf("P11.2, P11.3: kind %d, %d bytes: kind %d, %d, %d", f.Kind, len(f.Body), got.Kind, n, e)
			}
		}
	}
}

func TestNextRefuses(t *testing.T) {
	b, _ := Put(nil, Frame{9, "some body of bytes"})
	for i := range b {
		if f, n, e := Next(b[:i]); f != (Frame{}) || n != 0 || e != api.ErrShort {
			t.Errorf("P11.2, P11.3: the first %d bytes: %v, %d, %d", i, f, n, e)
		}
		if i < 3 {
			continue
		}
		for bit := range 8 {
			c := bytes.Clone(b)
			c[i] ^= 1 << bit
			if f, n, e := Next(c); f != (Frame{}) || n != 0 || e != api.ErrForm {
				t.Errorf("P11.3: byte %d turned: %v, %d, %d", i, f, n, e)
			}
		}
	}
	for _, c := range []struct {
		b []byte
		e api.Errno
	}{
		{nil, api.ErrShort},
		{[]byte{0xff, 0xff}, api.ErrShort},
		{[]byte{0xff, 0xff, 0xff}, api.ErrLong},
		{[]byte{0, 0x4e, 0x21}, api.ErrLong},
		{[]byte{0, 0x4e, 0x20}, api.ErrShort},
		{[]byte{0, 0, 0, 1, 2, 3}, api.ErrForm},
		{[]byte{0, 0, 0, 1, 3, 2}, api.ErrForm},
	} {
		if f, n, e := Next(c.b); f != (Frame{}) || n != 0 || e != c.e {
			t.Errorf("P11.2: Next(% x): %v, %d, %d", c.b, f, n, e)
		}
	}
}

func TestNewMemory(t *testing.T) {
	b := append(make([]byte, 0, 64), "ab"...)
	x, _ := Put(b, Frame{1, "x"})
	y, _ := Put(b, Frame{2, "y"})
	if !bytes.Equal(b[:10][2:], make([]byte, 8)) {
		t.Errorf("P0.4: what lies behind is written: % x", b[:10])
	}
	y[0] = 'q'
	if x[0] != 'a' || b[0] != 'a' || x[6] != 'x' {
		t.Errorf("P0.4: memory is shared: %q, %q", x, b)
	}
}
