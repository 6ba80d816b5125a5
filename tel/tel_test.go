package tel

import (
	"strings"
	"testing"

	"henhouse/api"
)

func TestCanon(t *testing.T) {
	for _, c := range []struct {
		in, out string
		e       api.Errno
	}{
		{"+49 (30) 123-456", "+4930123456", api.OK},
		{"  110 ", "110", api.OK},
		{"1.2/3", "123", api.OK},
		{"(+1)23", "+123", api.OK},
		{"- +123", "+123", api.OK},
		{"0049", "0049", api.OK},
		{"123456789012345", "123456789012345", api.OK},
		{"+123456789012345", "+123456789012345", api.OK},
		{"1234567890123456", "", api.ErrForm},
		{"+1234567890123456", "", api.ErrForm},
		{"12", "", api.ErrForm},
		{"+12", "", api.ErrForm},
		{"+", "", api.ErrForm},
		{"()", "", api.ErrForm},
		{"1+23", "", api.ErrForm},
		{"123+", "", api.ErrForm},
		{"++123", "", api.ErrForm},
		{"12a3", "", api.ErrForm},
		{"123,4", "", api.ErrForm},
		{"\u0661\u0662\u0663", "", api.ErrForm},
		{"123\t", "", api.ErrForm},
		{"123\xff", "", api.ErrForm},
		{"", "", api.ErrShort},
		{"   ", "", api.ErrShort},
		{"123" + strings.Repeat("-", 61), "123", api.OK},
		{"123" + strings.Repeat("-", 62), "", api.ErrLong},
		{"1" + strings.Repeat(" ", 99) + "23", "123", api.OK},
	} {
		if s, e := Canon(c.in); s != c.out || e != c.e {
			t.Errorf("P3.1: Canon(%q): %q, %d", c.in, s, e)
		}
	}
}

func TestIs(t *testing.T) {
	for s, want := range map[string]bool{
		"123": true, "+123": true, "000": true, strings.Repeat("7", 15): true, "+" + strings.Repeat("7", 15): true,
		"": false, "+": false, "12": false, "+12": false, strings.Repeat("7", 16): false, "+" + strings.Repeat("7", 16): false,
		"1 23": false, "12-3": false, "123+": false, "++123": false, "12:": false, "12/": false, " 123": false,
	} {
		if got := Is(s); got != want {
			t.Errorf("P3.1: Is(%q): %v", s, got)
		}
	}
}

func TestShow(t *testing.T) {
	for in, out := range map[string]string{
		"+4930123456": "+493 012 345 6", "123": "123", "+123": "+123", "1234": "123 4", "123456": "123 456", "1234567": "123 456 7",
		"123456789012345": "123 456 789 012 345", "+123456789012345": "+123 456 789 012 345",
		"": "", "12": "", "123 456": "", "12a": "", strings.Repeat("1", 16): "",
	} {
		if s := Show(in); s != out {
			t.Errorf("P3.2: Show(%q): %q", in, s)
		}
		if out == "" {
			continue
		}
		if s, e := Canon(Show(in)); s != in || e != api.OK {
			t.Errorf("P3.3: Canon of Show(%q): %q, %d", in, s, e)
		}
	}
}

func TestMatch(t *testing.T) {
	for _, c := range []struct {
		a, b string
		want bool
	}{
		{"12345", "12345", true},
		{"+12345", "12345", true},
		{"0012345", "12345", true},
		{"+00012345", "0012345", true},
		{"4930123456", "030123456", true},
		{"+4930123456", "123456", true},
		{"1234", "1234", false},
		{"01234", "01234", false},
		{"00001", "00001", false},
		{"00000", "00000", false},
		{"9991234", "1234", false},
		{"99912345", "12345", true},
		{"12345", "12346", false},
		{"123456", "12345", false},
		{"912345", "812345", false},
		{"99012345", "012345", true},
		{"99112345", "0012345", true},
		{"12345", "", false},
		{"12345", "12 345", false},
		{"1234567890123456", "12345", false},
		{"1234567890123456", "23456", false},
		{"x12345", "12345", false},
		{"12 12345", "12345", false},
	} {
		if Match(c.a, c.b) != c.want || Match(c.b, c.a) != c.want {
			t.Errorf("P3.2: Match(%q, %q) is not %v", c.a, c.b, c.want)
		}
	}
}
