package pipe

import (
	"math"
	"math/rand"
	"strings"
	"testing"
)

func has(t *testing.T, p *Pipe, s string, room int) {
	t.Helper()
	if p.Len() != len(s) || p.Room() != room || p.Look() != s || p.Len() != len(s) || p.Room() != room {
		t.Errorf("P25.1: %q, Len %d, Room %d; not %q, %d", p.Look(), p.Len(), p.Room(), s, room)
	}
}

func TestExample(t *testing.T) {
	p := New(3)
	has(t, p, "", 3)
	if !p.Put("ab") || p.Put("cd") {
		t.Error("P25.1: Put")
	}
	has(t, p, "ab", 1)
	if s := p.Take(1); s != "a" {
		t.Errorf("P25.1: Take(1): %q", s)
	}
	has(t, p, "b", 2)
	if !p.Put("cd") || p.Put("e") || !p.Put("") {
		t.Error("P25.1: Put up to its room")
	}
	has(t, p, "bcd", 0)
	for _, n := range []int{0, -1, math.MinInt} {
		if s := p.Take(n); s != "" {
			t.Errorf("P25.1: Take(%d): %q", n, s)
		}
	}
	has(t, p, "bcd", 0)
	if s := p.Take(99); s != "bcd" {
		t.Errorf("P25.1: Take(99): %q", s)
	}
	if s := p.Take(math.MaxInt); s != "" {
		t.Errorf("P25.1: Take of nothing: %q", s)
	}
	has(t, p, "", 3)
}

func TestClose(t *testing.T) {
	p := New(9)
	p.Put("abc")
	if p.Closed() {
		t.Error("P25.1: Closed ahead of Close")
	}
	p.Close()
	if !p.Closed() || p.Put("d") || p.Put("") {
		t.Error("P25.1: Put behind Close")
	}
	has(t, p, "abc", 6)
	if s := p.Take(2); s != "ab" {
		t.Errorf("P25.1: Take behind Close: %q", s)
	}
	p.Close()
	has(t, p, "c", 8)
}

func TestRooms(t *testing.T) {
	for _, room := range []int{math.MinInt, -1, 0} {
		p := New(room)
		if p.Room() != 0 || p.Put("a") || !p.Put("") || p.Len() != 0 {
			t.Errorf("P25.1: New(%d)", room)
		}
	}
	p := New(math.MaxInt)
	if !p.Put("abc") || p.Room() != math.MaxInt-3 {
		t.Errorf("P25.1: Room %d", p.Room())
	}
}

func TestInOrder(t *testing.T) {
	r := rand.New(rand.NewSource(25))
	for range 200 {
		p := New(r.Intn(50))
		room := p.Room()
		var in, out strings.Builder
		for range 100 {
			switch r.Intn(4) {
			case 0, 1:
				s := strings.Repeat(string(rune('a'+r.Intn(26))), r.Intn(12))
				want := len(s) <= p.Room()
				if p.Put(s) != want {
					t.Fatalf("P25.1: Put of %d bytes, Room %d", len(s), p.Room())
				}
				if want {
					in.WriteString(s)
				}
			case 2:
				out.WriteString(p.Take(r.Intn(15) - 1))
			case 3:
				if p.Look() != in.String()[out.Len():] {
					t.Fatalf("P25.1: Look: %q", p.Look())
				}
			}
			if p.Len() != in.Len()-out.Len() || p.Room() != room-p.Len() || !strings.HasPrefix(in.String(), out.String()) {
				t.Fatalf("P25.2: %q of %q", out.String(), in.String())
			}
		}
	}
}

// Pieces are not joined anew for each that comes or goes.
func TestManySmallPieces(t *testing.T) {
	const many = 1 << 20
	p := New(many)
	for range many {
		p.Put("x")
	}
	for range many {
		p.Take(1)
	}
	has(t, p, "", many)
}
