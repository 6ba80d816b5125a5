package ident

import (
	"strings"
	"testing"
)

func TestNameTakesJustItsBytes(t *testing.T) {
	for c := range 256 {
		b := byte(c)
		small := b >= 'a' && b <= 'z'
		digit := b >= '0' && b <= '9'
		if got := Name(string([]byte{b})); got != small {
			t.Errorf("P1.1: Name of byte %d alone: %v", c, got)
		}
		if got := Name(string([]byte{'a', b})); got != (small || digit) {
			t.Errorf("P1.1: Name with byte %d last: %v", c, got)
		}
		if got := Name(string([]byte{'a', b, 'z'})); got != (small || digit || b == '-') {
			t.Errorf("P1.1: Name with byte %d inside: %v", c, got)
		}
	}
}

func TestNameLength(t *testing.T) {
	for n := range 40 {
		if got := Name(strings.Repeat("q", n)); got != (n >= 1 && n <= 16) {
			t.Errorf("P1.1: Name of %d bytes: %v", n, got)
		}
	}
}

func TestUIDTakesJustItsBytes(t *testing.T) {
	const may = "abcdefghijklmnopqrstuvwxyzABCDEFGHIJKLMNOPQRSTUVWXYZ0123456789-._@"
	for c := range 256 {
		want := strings.IndexByte(may, byte(c)) >= 0
		for _, s := range []string{string([]byte{byte(c)}), string([]byte{'x', byte(c)}), string([]byte{byte(c), 'x'})} {
			if got := UID(s); got != want {
				t.Errorf("P1.1: UID %q: %v", s, got)
			}
		}
	}
	for n := range 40 {
		if got := UID(strings.Repeat("Q", n)); got != (n >= 1 && n <= 24) {
			t.Errorf("P1.1: UID of %d bytes: %v", n, got)
		}
	}
}

func TestKeyAndSplit(t *testing.T) {
	names := []string{"a", "ann", "home", "a-b", "z9", strings.Repeat("n", 16)}
	seen := map[string]bool{}
	for _, x := range names {
		for _, y := range names {
			k := Key(x, y)
			if k != x+"/"+y || seen[k] {
				t.Errorf("P1.2, P1.3: Key(%q, %q): %q", x, y, k)
			}
			seen[k] = true
			if a, b, ok := Split(k); a != x || b != y || !ok {
				t.Errorf("P1.2, P1.3: Split(%q): %q, %q, %v", k, a, b, ok)
			}
		}
	}
}

func TestKeyAndSplitRefuse(t *testing.T) {
	for _, c := range [][2]string{{"", ""}, {"", "a"}, {"a", ""}, {"A", "b"}, {"a", "B"}, {"a/", "b"}, {"a", "/b"}, {"a-", "b"}, {strings.Repeat("a", 17), "b"}} {
		if k := Key(c[0], c[1]); k != "" {
			t.Errorf("P1.2: Key(%q, %q): %q", c[0], c[1], k)
		}
	}
	for _, s := range []string{"", "/", "a", "ab", "a/", "/b", "a/b/", "/a/b", "a//b", "a/b/c", "A/b", "a/b-", "1/b", "a b/c", "a/" + strings.Repeat("b", 17)} {
		if a, b, ok := Split(s); a != "" || b != "" || ok {
			t.Errorf("P1.2: Split(%q): %q, %q, %v", s, a, b, ok)
		}
	}
}
