package mail

import (
	"strings"
	"testing"

	"henhouse/api"
)

var (
	l20 = strings.Repeat("d", 20)
	l32 = strings.Repeat("L", 32)
)

func addresses() []string {
	return []string{
		"a@b.c", "Ann.Lee@example.org", "a.b.c@d.e.f", "_@b.c", "+@b.c", "-@b.c", "-a-@b.c", "0@0.0", "a+tag@b-c.d--e",
		l32 + "@" + l20 + ".org", l32 + "@" + l20 + "." + strings.Repeat("e", 10), "a@" + l20 + "." + l20 + "." + l20[:19],
	}
}

func others() []string {
	return []string{
		"", "@", "a", "a@", "@b.c", "a@b", "a@b.", "a@.c", "a@b..c", ".a@b.c", "a.@b.c", "a..b@c.d", "a@b@c.d", "a b@c.d",
		"a@B.c", "a@b.C", "a@-b.c", "a@b-.c", "a@b.-c", "a@b.c-", "a@b_c.d", "a@b+c.d", "\u00e4@b.c", "a@\u00e4.c", "a@b.c\n", " a@b.c",
		l32 + "x@b.c", "a@" + l20 + "x.c", "a@b." + l20 + "x", "a/b@c.d", "a@b.c ",
		l32 + "@" + l20 + "." + strings.Repeat("e", 11),
	}
}

func TestIsAndParts(t *testing.T) {
	for _, s := range addresses() {
		x, y, ok := Parts(s)
		if !Is(s) || !ok || x+"@"+y != s || strings.Contains(x, "@") || strings.Contains(y, "@") {
			t.Errorf("P4.1: %q: %q, %q, %v", s, x, y, ok)
		}
		if c, e := Canon(s); c != s || e != api.OK {
			t.Errorf("P4.3: Canon(%q): %q, %d", s, c, e)
		}
	}
	for _, s := range others() {
		if x, y, ok := Parts(s); Is(s) || ok || x != "" || y != "" {
			t.Errorf("P4.1: %q: %q, %q, %v", s, x, y, ok)
		}
	}
}

func TestBytesOfParts(t *testing.T) {
	const domain = "abcdefghijklmnopqrstuvwxyz0123456789-"
	const local = domain + "ABCDEFGHIJKLMNOPQRSTUVWXYZ._+"
	for c := range 256 {
		b := string([]byte{byte(c)})
		if got := Is("a" + b + "a@b.c"); got != strings.Contains(local, b) {
			t.Errorf("P4.1: byte %d in a local part: %v", c, got)
		}
		if got := Is("a@b" + b + "b.c"); got != (strings.Contains(domain, b) || b == ".") {
			t.Errorf("P4.1: byte %d in a domain: %v", c, got)
		}
	}
}

func TestCanon(t *testing.T) {
	for _, c := range []struct {
		in, out string
		e       api.Errno
	}{
		{"Ann.Lee@Example.ORG", "Ann.Lee@example.org", api.OK},
		{"  A@B.C  ", "A@b.c", api.OK},
		{"", "", api.ErrShort},
		{"  ", "", api.ErrShort},
		{"a@b.c\x7f", "", api.ErrForm},
		{"a@b.c\xff", "", api.ErrForm},
		{"a@" + strings.Repeat("b", 63), "", api.ErrLong},
		{"ABC", "", api.ErrForm},
		{"A@B@c.d", "", api.ErrForm},
		{"a @b.c", "", api.ErrForm},
		{"a@b", "", api.ErrForm},
		{"a@\u212a.c", "", api.ErrForm},
	} {
		if s, e := Canon(c.in); s != c.out || e != c.e {
			t.Errorf("P4.1: Canon(%q): %q, %d", c.in, s, e)
		}
	}
}

func TestSame(t *testing.T) {
	for _, c := range []struct {
		a, b string
		want bool
	}{
		{"a@b.c", "a@b.c", true},
		{"Ann@b.c", "aNN@b.c", true},
		{"a@b.c", "b@b.c", false},
		{"a@b.c", "a@b.d", false},
		{"a@b.c", "a@B.c", false},
		{"a@b", "a@b", false},
		{"", "", false},
	} {
		if Same(c.a, c.b) != c.want || Same(c.b, c.a) != c.want {
			t.Errorf("P4.2: Same(%q, %q) is not %v", c.a, c.b, c.want)
		}
	}
}
