package card

import (
	"math/rand"
	"slices"
	"strconv"
	"strings"
	"testing"

	"henhouse/api"
	"henhouse/field"
)

func f(kind, label int, value string) api.Field {
	return api.Field{Kind: kind, Label: label, Value: value}
}

func name(s string) api.Field { return f(api.Name, api.Plain, s) }

func notes(n int) []api.Field {
	var l []api.Field
	for i := range n {
		l = append(l, f(api.Note, api.Plain, "n"+strconv.Itoa(100+i)))
	}
	return l
}

func TestCanonAndText(t *testing.T) {
	in := []api.Field{
		f(api.Note, 0, " x "), f(api.Tel, api.Cell, "1-1-0"), f(api.Tel, api.Home, "112"), name("Ann  Lee"), f(api.Note, 0, "x"),
		f(api.Day, 0, "--01-02"), f(api.Org, 0, "Inc"), f(api.Mail, 0, "a@B.c"), f(api.Tel, api.Cell, "110"), f(api.Org, 0, " Inc"), f(api.Note, 0, "X"),
	}
	kept := slices.Clone(in)
	want := []api.Field{
		name("Ann Lee"), f(api.Org, 0, "Inc"), f(api.Tel, api.Home, "112"), f(api.Tel, api.Cell, "110"), f(api.Mail, 0, "a@b.c"), f(api.Day, 0, "--01-02"),
		f(api.Note, 0, "X"), f(api.Note, 0, "x"),
	}
	got, e := Canon(in)
	if !slices.Equal(got, want) || e != api.OK {
		t.Errorf("P7.1: Canon: %v, %d", got, e)
	}
	if again, e := Canon(got); !slices.Equal(again, want) || e != api.OK {
		t.Errorf("P7.3: Canon twice: %v, %d", again, e)
	}
	text := "name:Ann Lee\norg:Inc\ntel;home:112\ntel;cell:110\nmail:a@b.c\nday:--01-02\nnote:X\nnote:x\n"
	if s, e := Text(in); s != text || e != api.OK {
		t.Errorf("P7.1: Text: %q, %d", s, e)
	}
	if !slices.Equal(in, kept) {
		t.Errorf("P0.4: the list handed in is changed: %v", in)
	}
	if l, e := Parse(text); !slices.Equal(l, want) || e != api.OK || !Is(text) || Title(text) != "Ann Lee" {
		t.Errorf("P7.2: Parse: %v, %d; Title %q", l, e, Title(text))
	}
}

func TestCanonErrors(t *testing.T) {
	ann := name("Ann")
	for i, c := range []struct {
		l []api.Field
		e api.Errno
	}{
		{nil, api.ErrForm},
		{[]api.Field{}, api.ErrForm},
		{[]api.Field{ann}, api.OK},
		{[]api.Field{ann, ann}, api.OK},
		{[]api.Field{ann, name("Bob")}, api.ErrForm},
		{[]api.Field{f(api.Org, 0, "Inc")}, api.ErrForm},
		{[]api.Field{ann, f(api.Org, 0, "a"), f(api.Org, 0, "b")}, api.ErrForm},
		{[]api.Field{ann, f(api.Day, 0, "--01-01"), f(api.Day, 0, "--01-02")}, api.ErrForm},
		{[]api.Field{ann, f(api.Day, 0, "--01-01"), f(api.Day, 0, " --01-01")}, api.OK},
		{append(notes(11), ann), api.OK},
		{append(append(notes(11), ann), notes(11)...), api.OK},
		{append(notes(12), ann), api.ErrLong},
		// Too many is named ahead of the form, a field's error ahead of both, the first from the front.
		{notes(12), api.ErrForm},
		{notes(13), api.ErrLong},
		{append(notes(13), name("")), api.ErrShort},
		{[]api.Field{name(""), {Kind: 9}}, api.ErrShort},
		{[]api.Field{{Kind: 9}, name("")}, api.ErrForm},
		{[]api.Field{ann, f(api.Note, 0, strings.Repeat("x", 65)), name("")}, api.ErrLong},
	} {
		got, e := Canon(c.l)
		if e != c.e || e != api.OK && len(got) != 0 {
			t.Errorf("P7.1: Canon, case %d: %v, %d", i, got, e)
		}
		s, e := Text(c.l)
		if e != c.e || (s != "") != (e == api.OK) {
			t.Errorf("P7.1: Text, case %d: %q, %d", i, s, e)
		}
	}
}

// The longest card there is: its fields are at most MaxFields, and each at its longest.
func TestLongestCard(t *testing.T) {
	l := []api.Field{name(strings.Repeat("n", 64))}
	for i := range 11 {
		tail := "@" + strings.Repeat("d", 15) + "." + strings.Repeat("e", 15)
		l = append(l, f(api.Mail, api.Home, strings.Repeat(string(rune('a'+i)), 32)+tail))
	}
	s, e := Text(l)
	if e != api.OK || len(s) != 70+11*75 || len(s) > api.MaxCard || !Is(s) {
		t.Errorf("P7.1: %d bytes, %d", len(s), e)
	}
}

func TestParseRefuses(t *testing.T) {
	for _, s := range []string{
		"", "\n", "name:Ann", "name:Ann\n\n", "\nname:Ann\n", "name:Ann\nname:Bob\n", "note:x\nname:Ann\n", "name:Ann\nnote:x\nnote:x\n", "name:Ann\nnote:y\nnote:x\n",
		"name:Ann\nnote:x", "name:Ann\nnote:x\n\x00", "name:Ann\r\n", "name: Ann\n", "note:x\n", "name:Ann\norg:a\norg:b\n", "name:Ann\nfoo:x\n", "name:Ann\ntel:1 1 0\n", "Ann",
		"name:Ann\n" + strings.Repeat("note:x\n", 200), strings.Repeat("x", 5000),
	} {
		if l, e := Parse(s); len(l) != 0 || e != api.ErrForm || Is(s) || Title(s) != "" {
			t.Errorf("P7.2: Parse(%q): %v, %d; Is %v; Title %q", s, l, e, Is(s), Title(s))
		}
	}
	over := append(notes(12), name("Ann"))
	text := ""
	slices.SortFunc(over, func(a, b api.Field) int { return a.Kind - b.Kind })
	for _, x := range over {
		text += field.Line(x) + "\n"
	}
	if Is(text) {
		t.Error("P7.2: a text of 13 fields")
	}
}

func TestExampleAndNewMemory(t *testing.T) {
	const text = "name:Ann\nnote:x\n"
	if s, e := Text([]api.Field{f(api.Note, 0, "x"), name("Ann")}); s != text || e != api.OK {
		t.Errorf("P7.1: %q, %d", s, e)
	}
	l, _ := Parse(text)
	l[0].Value = "Bob"
	_ = append(l, l...)
	if again, _ := Parse(text); again[0].Value != "Ann" {
		t.Error("P0.4: Parse hands out memory twice")
	}
	in := []api.Field{name("Ann"), f(api.Note, 0, "x"), f(api.Note, 0, "y")}
	out, _ := Canon(in[:1])
	_ = append(out, f(api.Note, 0, "z"))
	out[0].Value = "Bob"
	if in[0].Value != "Ann" || in[1].Value != "x" {
		t.Errorf("P0.4: Canon keeps what it was handed: %v", in)
	}
}

func TestTextOfParse(t *testing.T) {
	r := rand.New(rand.NewSource(7))
	pool := []api.Field{
		name("Ann"), name(" Bob "), f(api.Org, 0, "Inc"), f(api.Tel, api.Home, "110"), f(api.Tel, api.Cell, "1 10"), f(api.Mail, 0, "A@B.C"), f(api.Day, 0, "--02-29"),
		f(api.Note, 0, "x"), f(api.Note, 0, "y"), f(api.Note, 0, "z  z"),
	}
	for range 2000 {
		var l []api.Field
		for range r.Intn(8) {
			l = append(l, pool[r.Intn(len(pool))])
		}
		s, e := Text(l)
		c, ce := Canon(l)
		if e != ce || (e == api.OK) != Is(s) {
			t.Fatalf("P7.1, P7.2: %v: %d, %d", l, e, ce)
		}
		if e != api.OK {
			continue
		}
		p, e := Parse(s)
		back, _ := Text(p)
		if e != api.OK || back != s || !slices.Equal(p, c) {
			t.Fatalf("P7.3: %q: %q, %v", s, back, p)
		}
	}
}
