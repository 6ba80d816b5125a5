package field

import (
	"math"
	"strings"
	"testing"

	"henhouse/api"
)

func TestKindsAndLabels(t *testing.T) {
	values := map[int]string{api.Name: "Ann", api.Org: "Inc", api.Tel: "12345", api.Mail: "a@b.c", api.Day: "--01-02", api.Note: "x"}
	kinds := []int{math.MinInt, -1, 0, 1, 2, 3, 4, 5, 6, 7, math.MaxInt}
	labels := []int{math.MinInt, -1, 0, 1, 2, 3, 4, math.MaxInt}
	for _, k := range kinds {
		for _, l := range labels {
			v := values[k]
			if v == "" {
				v = "Ann"
			}
			f := api.Field{Kind: k, Label: l, Value: v}
			want := k >= 1 && k <= 6 && (l == 0 || (k == api.Tel || k == api.Mail) && (l == api.Home || l == api.Work) || k == api.Tel && l == api.Cell)
			g, e := Canon(f)
			if want && (g != f || e != api.OK) || !want && (g != (api.Field{}) || e != api.ErrForm) {
				t.Errorf("P6.1: Canon(%v): %v, %d", f, g, e)
			}
			if May(f) != want || (Line(f) != "") != want {
				t.Errorf("P6.1, P6.2: %v: May %v, Line %q", f, May(f), Line(f))
			}
		}
	}
}

func TestCanonOfValues(t *testing.T) {
	for _, c := range []struct {
		f   api.Field
		out string
		e   api.Errno
	}{
		{api.Field{Kind: api.Name, Value: " Ann  Lee "}, "Ann Lee", api.OK},
		{api.Field{Kind: api.Org, Value: "  Inc"}, "Inc", api.OK},
		{api.Field{Kind: api.Note, Value: "a:b;c "}, "a:b;c", api.OK},
		{api.Field{Kind: api.Tel, Value: "+49 (30) 1"}, "+49301", api.OK},
		{api.Field{Kind: api.Mail, Label: api.Work, Value: " Ann@B.C "}, "Ann@b.c", api.OK},
		{api.Field{Kind: api.Day, Value: " 2024-02-29 "}, "2024-02-29", api.OK},
		{api.Field{Kind: api.Day, Value: "--12-25"}, "--12-25", api.OK},
		{api.Field{Kind: api.Name}, "", api.ErrShort},
		{api.Field{Kind: api.Day, Value: " "}, "", api.ErrShort},
		{api.Field{Kind: api.Tel}, "", api.ErrShort},
		{api.Field{Kind: api.Mail}, "", api.ErrShort},
		{api.Field{Kind: api.Note, Value: strings.Repeat("x", 65)}, "", api.ErrLong},
		{api.Field{Kind: api.Day, Value: strings.Repeat("x", 65)}, "", api.ErrLong},
		{api.Field{Kind: api.Org, Value: "a\nb"}, "", api.ErrForm},
		{api.Field{Kind: api.Day, Value: "2023-02-29"}, "", api.ErrForm},
		{api.Field{Kind: api.Day, Value: "2023- 02-28"}, "", api.ErrForm},
		{api.Field{Kind: api.Tel, Value: "12"}, "", api.ErrForm},
		{api.Field{Kind: api.Mail, Value: "a@b"}, "", api.ErrForm},
		// The form of its kind and label is named ahead of its value's error.
		{api.Field{Kind: api.Name, Label: api.Home}, "", api.ErrForm},
		{api.Field{Kind: 9}, "", api.ErrForm},
	} {
		want := c.f
		want.Value = c.out
		if c.e != api.OK {
			want = api.Field{}
		}
		g, e := Canon(c.f)
		if g != want || e != c.e {
			t.Errorf("P6.1: Canon(%v): %v, %d", c.f, g, e)
		}
		if e == api.OK {
			if h, e := Canon(g); h != g || e != api.OK || !May(g) {
				t.Errorf("P6.4: Canon twice of %v: %v, %d", c.f, h, e)
			}
		}
		if c.f != g && May(c.f) {
			t.Errorf("P6.1: May(%v)", c.f)
		}
	}
}

func lines() map[string]api.Field {
	return map[string]api.Field{
		"name:Ann Lee":            {Kind: api.Name, Value: "Ann Lee"},
		"org:Inc":                 {Kind: api.Org, Value: "Inc"},
		"tel:110":                 {Kind: api.Tel, Value: "110"},
		"tel;home:+110":           {Kind: api.Tel, Label: api.Home, Value: "+110"},
		"tel;work:110":            {Kind: api.Tel, Label: api.Work, Value: "110"},
		"tel;cell:+4930123456":    {Kind: api.Tel, Label: api.Cell, Value: "+4930123456"},
		"mail:a@b.c":              {Kind: api.Mail, Value: "a@b.c"},
		"mail;home:a@b.c":         {Kind: api.Mail, Label: api.Home, Value: "a@b.c"},
		"mail;work:A@b.c":         {Kind: api.Mail, Label: api.Work, Value: "A@b.c"},
		"day:--02-29":             {Kind: api.Day, Value: "--02-29"},
		"day:2024-02-29":          {Kind: api.Day, Value: "2024-02-29"},
		"note:tel;home:1 : name:": {Kind: api.Note, Value: "tel;home:1 : name:"},
		"note::":                  {Kind: api.Note, Value: ":"},
	}
}

func TestLineAndParse(t *testing.T) {
	for s, f := range lines() {
		if got := Line(f); got != s {
			t.Errorf("P6.2: Line(%v): %q", f, got)
		}
		if got, e := Parse(s); got != f || e != api.OK {
			t.Errorf("P6.2, P6.4: Parse(%q): %v, %d", s, got, e)
		}
	}
	for _, f := range []api.Field{{}, {Kind: api.Name}, {Kind: api.Name, Value: " a"}, {Kind: api.Mail, Value: "a@B.c"}, {Kind: api.Tel, Value: "1 10"}} {
		if s := Line(f); s != "" {
			t.Errorf("P6.2: Line(%v): %q", f, s)
		}
	}
}

func TestParseRefuses(t *testing.T) {
	for _, s := range []string{
		"", ":", "name", "name:", "name: a", "name:a ", "name:a  b", "name;home:a", "name;:a", ";home:a", "Name:a", " name:a", "name :a", "names:a",
		"org;work:a", "tel;fax:110", "tel;Home:110", "tel;plain:110", "tel;home;work:110", "tel:1 10", "tel:1-10", "tel:11", "mail;cell:a@b.c", "mail:a@B.c", "mail:a",
		"day;home:--01-01", "day:--1-1", "day:2023-02-29", "note:a\n", "note:\xff", "note:" + strings.Repeat("x", 65), "foo:a", "110",
	} {
		if f, e := Parse(s); f != (api.Field{}) || e != api.ErrForm {
			t.Errorf("P6.2: Parse(%q): %v, %d", s, f, e)
		}
	}
}

func TestLess(t *testing.T) {
	rising := []api.Field{
		{Kind: -1, Label: 9, Value: "z"}, {Kind: 1, Label: 0, Value: "z"}, {Kind: 1, Label: 1, Value: "a"}, {Kind: 2, Label: -5, Value: "zz"}, {Kind: 2, Label: 0, Value: ""},
		{Kind: 2, Label: 0, Value: "A"}, {Kind: 2, Label: 0, Value: "AB"}, {Kind: 2, Label: 0, Value: "a"}, {Kind: 2, Label: 0, Value: "\xc3"}, {Kind: 2, Label: 3, Value: "A"}, {Kind: 3},
	}
	for i, a := range rising {
		for j, b := range rising {
			if got := Less(a, b); got != (i < j) {
				t.Errorf("P6.3: Less(%v, %v): %v", a, b, got)
			}
		}
	}
}
