package fold

import (
	"math/rand"
	"strings"
	"testing"

	"henhouse/api"
)

func TestClean(t *testing.T) {
	long := strings.Repeat("x", 64)
	for _, c := range []struct {
		in, out string
		e       api.Errno
	}{
		{"  Ann   Lee ", "Ann Lee", api.OK},
		{"Ann", "Ann", api.OK},
		{" a", "a", api.OK},
		{"a ", "a", api.OK},
		{"a  b   c", "a b c", api.OK},
		{"~", "~", api.OK},
		{"\u00e4 \u20ac \U0010ffff", "\u00e4 \u20ac \U0010ffff", api.OK},
		{"\u0080\u00a0\u2003", "\u0080\u00a0\u2003", api.OK},
		{"", "", api.ErrShort},
		{" ", "", api.ErrShort},
		{strings.Repeat(" ", 100), "", api.ErrShort},
		{long, long, api.OK},
		{"   " + long + "   ", long, api.OK},
		{strings.Repeat("x  ", 32) + "y", "", api.ErrLong},
		{strings.Repeat("x  ", 31) + "yy", strings.Repeat("x ", 31) + "yy", api.OK},
		{long + "x", "", api.ErrLong},
		{strings.Repeat("\u00e4", 32), strings.Repeat("\u00e4", 32), api.OK},
		{strings.Repeat("\u00e4", 32) + "x", "", api.ErrLong},
	} {
		if s, e := Clean(c.in); s != c.out || e != c.e {
			t.Errorf("P2.1: Clean(%q): %q, %d", c.in, s, e)
		}
	}
}

func TestCleanRefusesSigns(t *testing.T) {
	for c := range 128 {
		want := api.OK
		if c < 32 || c == 127 {
			want = api.ErrForm
		}
		if _, e := Clean("a" + string([]byte{byte(c)}) + "b"); e != want {
			t.Errorf("P2.1: sign %d: %d", c, e)
		}
	}
	bad := []string{"\x80", "\xc3", "\xc0\x80", "\xc1\xbf", "\xe0\x9f\xbf", "\xed\xa0\x80", "\xed\xbf\xbf", "\xf0\x8f\xbf\xbf", "\xf4\x90\x80\x80", "\xf5\x80\x80\x80", "\xff", "\xfe", "a\xe2\x82"}
	for _, s := range bad {
		if x, e := Clean(s); x != "" || e != api.ErrForm {
			t.Errorf("P2.1: Clean(%q): %q, %d", s, x, e)
		}
		if n := Signs(s); n != 0 {
			t.Errorf("P2.2: Signs(%q): %d", s, n)
		}
	}
	// The form is named first: neither what is empty else nor what is long else.
	for _, s := range []string{" \n", strings.Repeat("x", 90) + "\t", strings.Repeat("x", 90) + "\xff"} {
		if _, e := Clean(s); e != api.ErrForm {
			t.Errorf("P2.1: Clean(%q): %d", s, e)
		}
	}
}

func TestFold(t *testing.T) {
	for c := range 256 {
		want := byte(c)
		if c >= 'A' && c <= 'Z' {
			want += 32
		}
		if s := Fold(string([]byte{byte(c)})); s != string([]byte{want}) {
			t.Errorf("P2.2: Fold of byte %d: %q", c, s)
		}
	}
	if s := Fold("\u00c4nN\u212a"); s != "\u00c4nn\u212a" {
		t.Errorf("P2.2: Fold: %q", s)
	}
	if s := Fold(""); s != "" {
		t.Errorf("P2.2: Fold of nothing: %q", s)
	}
}

func TestLess(t *testing.T) {
	rising := []string{"", " ", "[", "A", "a", "AB", "Ab", "aB", "ab", "b", "Bob", "bob", "z", "\x80", "\u00e4"}
	for i, a := range rising {
		for j, b := range rising {
			if got := Less(a, b); got != (i < j) {
				t.Errorf("P2.2: Less(%q, %q): %v", a, b, got)
			}
		}
	}
	if !Less("ann", "Bob") || Less("Bob", "ann") {
		t.Error("P2.2: ann is ahead of Bob")
	}
}

func TestSigns(t *testing.T) {
	for s, n := range map[string]int{"": 0, "a": 1, "\u00e4\u20ac": 2, "\U0001f600x\x00": 3, "ab": 2} {
		if got := Signs(s); got != n {
			t.Errorf("P2.2: Signs(%q): %d", s, got)
		}
	}
}

func TestWhatFollows(t *testing.T) {
	r := rand.New(rand.NewSource(2))
	letters := []string{"a", "A", " ", "b", "  ", "\u00e4", "~"}
	draw := func() string {
		var b strings.Builder
		for range r.Intn(9) {
			b.WriteString(letters[r.Intn(len(letters))])
		}
		return b.String()
	}
	for range 3000 {
		a, b := draw(), draw()
		if s, e := Clean(a); e == api.OK {
			if u, f := Clean(s); u != s || f != api.OK {
				t.Fatalf("P2.3: Clean twice: %q, %q", s, u)
			}
		}
		if Less(a, b) == Less(b, a) && a != b || a == b && Less(a, b) {
			t.Fatalf("P2.3: Less of %q, %q", a, b)
		}
	}
}
