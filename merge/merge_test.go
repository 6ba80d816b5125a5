package merge

import (
	"math/rand"
	"slices"
	"strconv"
	"strings"
	"testing"

	"henhouse/api"
	"henhouse/card"
)

func text(lines ...string) string { return strings.Join(lines, "\n") + "\n" }

func TestThree(t *testing.T) {
	for i, c := range []struct {
		base, a, b, want string
		torn             int
	}{
		{text("name:A", "tel:110"), text("name:A"), text("name:A", "tel:110", "mail:a@b.c"), text("name:A", "mail:a@b.c"), 0},
		{text("name:A", "tel:110"), text("name:A", "tel:110", "mail:a@b.c"), text("name:A"), text("name:A", "mail:a@b.c"), 0},
		{text("name:A", "note:x"), text("name:A"), text("name:A"), text("name:A"), 0},
		{text("name:A"), text("name:A", "note:x"), text("name:A", "note:x", "note:y"), text("name:A", "note:x", "note:y"), 0},
		{text("name:A"), text("name:A", "tel;home:110"), text("name:A", "tel;work:110"), text("name:A", "tel;home:110", "tel;work:110"), 0},
		{text("name:A"), text("name:B"), text("name:A"), text("name:B"), 0},
		{text("name:A"), text("name:A"), text("name:B"), text("name:B"), 0},
		{text("name:A"), text("name:B"), text("name:B"), text("name:B"), 0},
		{text("name:A"), text("name:B"), text("name:C"), text("name:B"), 1},
		{text("name:A", "org:X"), text("name:A"), text("name:A", "org:X"), text("name:A"), 0},
		{text("name:A", "org:X"), text("name:A", "org:X"), text("name:A"), text("name:A"), 0},
		{text("name:A", "org:X"), text("name:A"), text("name:A", "org:Y"), text("name:A"), 1},
		{text("name:A", "org:X"), text("name:A", "org:Y"), text("name:A"), text("name:A", "org:Y"), 1},
		{text("name:A"), text("name:A", "org:Y"), text("name:A", "org:Z"), text("name:A", "org:Y"), 1},
		{text("name:A"), text("name:B", "org:Y", "day:--01-01"), text("name:C", "org:Z", "day:--01-02"), text("name:B", "org:Y", "day:--01-01"), 3},
		{text("name:A"), text("name:A", "day:--01-01"), text("name:B"), text("name:B", "day:--01-01"), 0},
	} {
		if s, torn, e := Three(c.base, c.a, c.b); s != c.want || torn != c.torn || e != api.OK {
			t.Errorf("P8.1, P8.2: case %d: %q, %d, %d", i, s, torn, e)
		}
	}
}

func TestThreeErrors(t *testing.T) {
	good := text("name:A")
	for _, c := range [][3]string{{"", good, good}, {good, "x", good}, {good, good, "name:A"}, {"", "", ""}, {good, good, text("note:x")}} {
		if s, torn, e := Three(c[0], c[1], c[2]); s != "" || torn != 0 || e != api.ErrForm {
			t.Errorf("P8.2: %q: %q, %d, %d", c, s, torn, e)
		}
	}
	many := func(name, note string, n int) string {
		l := []string{"name:" + name}
		for i := range n {
			l = append(l, "note:"+note+strconv.Itoa(100+i))
		}
		return text(l...)
	}
	if s, torn, e := Three(good, many("B", "a", 6), many("C", "b", 6)); s != "" || torn != 0 || e != api.ErrLong {
		t.Errorf("P8.2: too many fields: %q, %d, %d", s, torn, e)
	}
	if _, torn, e := Three(good, many("B", "a", 6), many("C", "b", 5)); torn != 1 || e != api.OK {
		t.Errorf("P8.2: twelve fields: %d, %d", torn, e)
	}
}

func TestChanges(t *testing.T) {
	from := text("name:A", "org:X", "tel:110", "tel;home:112", "note:x")
	to := text("name:A", "org:Y", "tel;home:112", "tel;cell:110", "note:a", "note:z")
	gone, come, e := Changes(from, to)
	wantGone := []api.Field{{Kind: api.Org, Value: "X"}, {Kind: api.Tel, Value: "110"}, {Kind: api.Note, Value: "x"}}
	wantCome := []api.Field{{Kind: api.Org, Value: "Y"}, {Kind: api.Tel, Label: api.Cell, Value: "110"}, {Kind: api.Note, Value: "a"}, {Kind: api.Note, Value: "z"}}
	if !slices.Equal(gone, wantGone) || !slices.Equal(come, wantCome) || e != api.OK {
		t.Errorf("P8.1: %v, %v, %d", gone, come, e)
	}
	if gone, come, e := Changes(from, from); len(gone) != 0 || len(come) != 0 || e != api.OK {
		t.Errorf("P8.1: no change: %v, %v, %d", gone, come, e)
	}
	for _, c := range [][2]string{{"", to}, {from, ""}, {"x", "y"}, {from, "name:A"}} {
		if gone, come, e := Changes(c[0], c[1]); len(gone) != 0 || len(come) != 0 || e != api.ErrForm {
			t.Errorf("P8.1: %q: %v, %v, %d", c, gone, come, e)
		}
	}
}

func draw(r *rand.Rand) string {
	l := []api.Field{{Kind: api.Name, Value: []string{"A", "B", "C"}[r.Intn(3)]}}
	pool := []api.Field{
		{Kind: api.Org, Value: "X"}, {Kind: api.Org, Value: "Y"}, {Kind: api.Day, Value: "--01-01"}, {Kind: api.Day, Value: "--01-02"}, {Kind: api.Tel, Value: "110"},
		{Kind: api.Tel, Label: api.Home, Value: "110"}, {Kind: api.Mail, Value: "a@b.c"}, {Kind: api.Note, Value: "x"}, {Kind: api.Note, Value: "y"},
	}
	for {
		own := slices.Clone(l)
		for _, f := range pool {
			if r.Intn(2) == 0 {
				own = append(own, f)
			}
		}
		if s, e := card.Text(own); e == api.OK {
			return s
		}
	}
}

func TestWhatFollows(t *testing.T) {
	r := rand.New(rand.NewSource(8))
	for range 3000 {
		x, y, z := draw(r), draw(r), draw(r)
		for _, c := range [][3]string{{x, x, y}, {x, y, x}, {x, y, y}} {
			if s, torn, e := Three(c[0], c[1], c[2]); s != y || torn != 0 || e != api.OK {
				t.Fatalf("P8.3: Three(%q): %q, %d, %d", c, s, torn, e)
			}
		}
		s, torn, e := Three(x, y, z)
		u, back, f := Three(x, z, y)
		if torn != back || e != f || torn == 0 && s != u {
			t.Fatalf("P8.3: places changed: %q, %d; %q, %d", s, torn, u, back)
		}
		gone, come, _ := Changes(x, y)
		old, _ := card.Parse(x)
		old = slices.DeleteFunc(old, func(f api.Field) bool { return slices.Contains(gone, f) })
		if s, e := card.Text(append(old, come...)); s != y || e != api.OK {
			t.Fatalf("P8.1: %q to %q: %q", x, y, s)
		}
	}
}
