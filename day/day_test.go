package day

import (
	"math"
	"strings"
	"testing"
	"time"

	"henhouse/api"
)

func date(y, m, d int) api.Date { return api.Date{Year: y, Month: m, Day: d} }

func TestLeap(t *testing.T) {
	for y := -10; y < 10010; y++ {
		want := y >= 1 && y <= 9999 && time.Date(y, 2, 29, 0, 0, 0, 0, time.UTC).Month() == 2
		if Leap(y) != want {
			t.Errorf("P5.1: Leap(%d) is not %v", y, want)
		}
	}
	for _, y := range []int{math.MinInt, math.MaxInt, -4, 0, 10000, 1900, 2100} {
		if Leap(y) {
			t.Errorf("P5.1: Leap(%d)", y)
		}
	}
}

func TestMay(t *testing.T) {
	lengths := []int{0, 31, 28, 31, 30, 31, 30, 31, 31, 30, 31, 30, 31, 0}
	for _, y := range []int{0, 1, 4, 1900, 2000, 2023, 2024, 9999} {
		for m := 0; m <= 13; m++ {
			n := lengths[m]
			if m == 2 && (y == 0 || y == 4 || y == 2000 || y == 2024) {
				n = 29
			}
			for d := -1; d <= 33; d++ {
				if got := May(date(y, m, d)); got != (d >= 1 && d <= n) {
					t.Errorf("P5.1: May(%d-%d-%d): %v", y, m, d, got)
				}
			}
		}
	}
	for _, d := range []api.Date{date(-1, 1, 1), date(10000, 1, 1), date(math.MinInt, 1, 1), date(1, math.MaxInt, 1), date(1, 1, math.MinInt)} {
		if May(d) || Show(d) != "" || Count(d) != -1 {
			t.Errorf("P5.1, P5.2, P5.3: %v", d)
		}
	}
}

func TestShowAndParse(t *testing.T) {
	for s, d := range map[string]api.Date{
		"2026-12-24": date(2026, 12, 24), "0001-01-01": date(1, 1, 1), "9999-12-31": date(9999, 12, 31), "0987-06-05": date(987, 6, 5),
		"--12-25": date(0, 12, 25), "--02-29": date(0, 2, 29), "2024-02-29": date(2024, 2, 29),
	} {
		if got := Show(d); got != s {
			t.Errorf("P5.2: Show(%v): %q", d, got)
		}
		if got, e := Parse(s); got != d || e != api.OK {
			t.Errorf("P5.2: Parse(%q): %v, %d", s, got, e)
		}
	}
}

func TestAllThatIsShownIsParsed(t *testing.T) {
	for y := range 10000 {
		if y > 30 && y%97 != 0 && y < 9990 {
			continue
		}
		for m := 1; m <= 12; m++ {
			for d := 1; d <= 31; d++ {
				x := date(y, m, d)
				if !May(x) {
					continue
				}
				if got, e := Parse(Show(x)); got != x || e != api.OK {
					t.Fatalf("P5.4: %v: %v, %d", x, got, e)
				}
			}
		}
	}
}

func TestParseRefuses(t *testing.T) {
	for _, s := range []string{
		"", "-", "--", "---", "2026", "2026-", "2026-02-29", "2026-13-01", "2026-00-01", "2026-01-00", "2026-04-31", "0000-01-01", "--02-30",
		"-0-01-01", "--1-1", "--01-1", "--01-011", "--12-25 ", " --12-25", "2026/01/01", "2026-01/01", "2026-1-1", "2026-01-1", "02026-01-01",
		"202a-01-01", "2026-0a-01", "2026-01-a1", "+026-01-01", "2026-+1-01", "--01-+1", "----01", "20260101", "2026-01-01\n", "\xff\xff\xff\xff-01-01",
		"10000-01-01", "--12--5", "---2-25", strings.Repeat("0", 100),
	} {
		if d, e := Parse(s); d != (api.Date{}) || e != api.ErrForm {
			t.Errorf("P5.2: Parse(%q): %v, %d", s, d, e)
		}
	}
}

func TestCount(t *testing.T) {
	n := 0
	for y := 1; y <= 9999; y++ {
		for m := 1; m <= 12; m++ {
			for d := 1; d <= 31; d++ {
				x := date(y, m, d)
				if !May(x) {
					if Count(x) != -1 {
						t.Fatalf("P5.3: Count(%v)", x)
					}
					continue
				}
				if got := Count(x); got != n {
					t.Fatalf("P5.3: Count(%v): %d, not %d", x, got, n)
				}
				n++
			}
		}
	}
	if got := Count(date(0, 1, 1)); got != -1 {
		t.Errorf("P5.3: Count of Year 0: %d", got)
	}
}

func TestUntil(t *testing.T) {
	for _, c := range []struct {
		d, today string
		want     int
	}{
		{"--12-25", "2026-12-24", 1},
		{"--12-25", "2026-12-25", 0},
		{"--12-25", "2026-12-26", 364},
		{"--02-29", "2027-03-01", 0},
		{"--02-29", "2027-02-28", 1},
		{"--02-29", "2028-02-28", 1},
		{"--02-29", "2028-02-29", 0},
		{"--02-29", "2028-03-01", 365},
		{"--02-29", "2027-03-02", 364},
		{"2024-02-29", "2027-02-28", 1},
		{"1984-01-02", "2000-01-03", 365},
		{"1984-01-02", "2001-01-03", 364},
		{"9999-01-01", "0001-01-01", 0},
		{"--12-31", "9999-12-31", 0},
		{"--12-30", "9999-12-31", -1},
		{"--01-01", "9998-12-31", 1},
		{"--02-29", "9999-03-02", -1},
		{"--02-29", "9999-03-01", 0},
	} {
		d, e := Parse(c.d)
		today, f := Parse(c.today)
		if got := Until(d, today); e != api.OK || f != api.OK || got != c.want {
			t.Errorf("P5.3: Until(%s, %s): %d, not %d", c.d, c.today, got, c.want)
		}
	}
	good := date(2026, 1, 1)
	for _, c := range [][2]api.Date{{good, date(0, 1, 1)}, {good, date(2026, 2, 29)}, {date(2026, 2, 29), good}, {api.Date{}, good}, {good, api.Date{}}, {date(-1, 1, 1), good}, {good, date(10000, 1, 1)}} {
		if got := Until(c[0], c[1]); got != -1 {
			t.Errorf("P5.3: Until(%v, %v): %d", c[0], c[1], got)
		}
	}
}

// The next such day is looked for from day to day.
func TestUntilDayByDay(t *testing.T) {
	slow := func(d api.Date, today time.Time) int {
		for n := 0; n < 800; n++ {
			x := today.AddDate(0, 0, n)
			leap := time.Date(x.Year(), 2, 29, 0, 0, 0, 0, time.UTC).Day() == 29
			if int(x.Month()) == d.Month && x.Day() == d.Day || d.Month == 2 && d.Day == 29 && !leap && x.Month() == 3 && x.Day() == 1 {
				return n
			}
		}
		return -1
	}
	for _, y := range []int{1899, 1900, 1999, 2000, 2023, 2024} {
		for k := range 366 {
			today := time.Date(y, 1, 1+k, 0, 0, 0, 0, time.UTC)
			now := date(today.Year(), int(today.Month()), today.Day())
			for _, d := range []api.Date{date(0, 2, 29), date(0, 2, 28), date(0, 3, 1), date(2000, 12, 31), date(0, 1, 1), date(0, 7, 15)} {
				if got, want := Until(d, now), slow(d, today); got != want || got >= 732 {
					t.Fatalf("P5.3, P5.4: Until(%v, %v): %d, not %d", d, now, got, want)
				}
			}
		}
	}
}
