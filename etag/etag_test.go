package etag

import (
	"math"
	"math/rand"
	"testing"

	"henhouse/api"
)

const digits = "0123456789abcdefghjkmnpqrstvwxyz"

func TestShow(t *testing.T) {
	for v, want := range map[int64]string{
		1: `"1p"`, 32: `"104"`, 2: `"2q"`, 31: `"zn"`, 0: "", -1: "", math.MinInt64: "",
	} {
		if s := Show(v); s != want {
			t.Errorf("P9.1: Show(%d): %q", v, s)
		}
	}
	if s := Show(math.MaxInt64); len(s) != 16 || s[1:14] != "7zzzzzzzzzzzz" {
		t.Errorf("P9.1: Show of the last version: %q", s)
	}
}

func TestParseWhatIsShown(t *testing.T) {
	r := rand.New(rand.NewSource(9))
	seen := map[string]int64{}
	try := func(v int64) {
		s := Show(v)
		if got, ok := Parse(s); got != v || !ok {
			t.Fatalf("P9.1, P9.3: Parse(%q): %d, %v, not %d", s, got, ok, v)
		}
		if u, ok := seen[s]; ok && u != v {
			t.Fatalf("P9.3: %d and %d have the tag %q", u, v, s)
		}
		seen[s] = v
	}
	for v := int64(1); v < 5000; v++ {
		try(v)
	}
	for range 5000 {
		try(r.Int63()>>uint(r.Intn(62)) + 1)
	}
	try(math.MaxInt64)
	try(math.MaxInt64 - 1)
}

func TestParseRefuses(t *testing.T) {
	for _, s := range []string{
		"", `"`, `""`, `"p"`, `"1"`, `1p`, `1p"`, `"1p`, `"1q"`, `"01p"`, `"0m"`, `"007"`, `"1P"`, `"1p""`, ` "1p"`, `"1p" `, `'1p'`, `"il"`, `"1\xff"`, `*`, `W/"1p"`,
		`"80000000000000"`, `"zzzzzzzzzzzzzz"`, `"7zzzzzzzzzzzzzzzzzzzz"`, "\"1p\x00",
	} {
		if v, ok := Parse(s); v != 0 || ok {
			t.Errorf("P9.1: Parse(%q): %d, %v", s, v, ok)
		}
	}
	// Of all last digits one alone makes a tag; so for a number past the last version, none does.
	for _, head := range []string{"1", "10", "7zzzzzzzzzzzz", "8000000000000", "10000000000000", "01", "0"} {
		n := 0
		for i := range digits {
			if _, ok := Parse(`"` + head + digits[i:i+1] + `"`); ok {
				n++
			}
		}
		want := 0
		if head == "1" || head == "10" || head == "7zzzzzzzzzzzz" {
			want = 1
		}
		if n != want {
			t.Errorf("P9.1: %d tags of the digits %q", n, head)
		}
	}
}

func TestCondAndTexts(t *testing.T) {
	for _, c := range []struct {
		match, none string
		cond        api.Cond
		e           api.Errno
	}{
		{"", "", api.Cond{}, api.OK},
		{"*", "", api.Cond{Kind: api.Present}, api.OK},
		{"", "*", api.Cond{Kind: api.Absent}, api.OK},
		{`"1p"`, "", api.Cond{Kind: api.Exact, Version: 1}, api.OK},
		{`"104"`, "", api.Cond{Kind: api.Exact, Version: 32}, api.OK},
		{"*", "*", api.Cond{}, api.ErrForm},
		{`"1p"`, "*", api.Cond{}, api.ErrForm},
		{`"1p"`, `"1p"`, api.Cond{}, api.ErrForm},
		{"", `"1p"`, api.Cond{}, api.ErrForm},
		{"*", `"1p"`, api.Cond{}, api.ErrForm},
		{`"1q"`, "", api.Cond{}, api.ErrForm},
		{"x", "", api.Cond{}, api.ErrForm},
		{"", "x", api.Cond{}, api.ErrForm},
		{"**", "", api.Cond{}, api.ErrForm},
	} {
		got, e := Cond(c.match, c.none)
		if got != c.cond || e != c.e {
			t.Errorf("P9.2: Cond(%q, %q): %v, %d", c.match, c.none, got, e)
		}
		if c.e != api.OK {
			continue
		}
		if m, n := Texts(c.cond); m != c.match || n != c.none {
			t.Errorf("P9.2: Texts(%v): %q, %q", c.cond, m, n)
		}
	}
}

func TestMayAndHolds(t *testing.T) {
	versions := []int64{math.MinInt64, -1, 0, 1, 2, math.MaxInt64}
	for _, kind := range []int{math.MinInt, -1, 0, 1, 2, 3, 4, math.MaxInt} {
		for _, v := range versions {
			c := api.Cond{Kind: kind, Version: v}
			may := kind >= 0 && kind <= 2 && v == 0 || kind == 3 && v >= 1
			if May(c) != may {
				t.Errorf("P9.2: May(%v) is not %v", c, may)
			}
			if m, n := Texts(c); !may && (m != "" || n != "") {
				t.Errorf("P9.2: Texts(%v): %q, %q", c, m, n)
			}
			for _, there := range []bool{false, true} {
				for _, version := range versions {
					want := may && (kind == api.Any || kind == api.Absent && !there || kind == api.Present && there || kind == api.Exact && there && version == v)
					if Holds(c, there, version) != want {
						t.Errorf("P9.2: Holds(%v, %v, %d) is not %v", c, there, version, want)
					}
				}
			}
		}
	}
}
