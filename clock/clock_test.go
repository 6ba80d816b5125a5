package clock

import (
	"math"
	"slices"
	"testing"

	"henhouse/api"
)

func TestTick(t *testing.T) {
	c := New()
	if c.Now() != 0 || len(c.All()) != 0 {
		t.Error("P23.1: New")
	}
	for i, x := range []struct {
		n   int
		ok  bool
		now int
	}{
		{0, true, 0}, {-1, false, 0}, {math.MinInt, false, 0}, {5, true, 5}, {math.MaxInt, false, 5}, {api.MaxNow - 4, false, 5}, {api.MaxNow, false, 5},
		{api.MaxNow - 5, true, api.MaxNow}, {1, false, api.MaxNow}, {0, true, api.MaxNow}, {-1, false, api.MaxNow},
	} {
		if ok := c.Tick(x.n); ok != x.ok || c.Now() != x.now {
			t.Errorf("P23.1: step %d: Tick(%d): %v, Now %d", i, x.n, ok, c.Now())
		}
	}
}

func TestAlarms(t *testing.T) {
	c := New()
	if at, ok := c.At(1); at != 0 || ok || c.Due(1) || c.Drop(1) {
		t.Error("P23.2: an alarm that is none")
	}
	c.Set(1, 5)
	c.Tick(4)
	if at, ok := c.At(1); at != 5 || !ok || c.Due(1) || len(c.All()) != 0 {
		t.Error("P23.2: ahead of its time")
	}
	c.Tick(1)
	if !c.Due(1) || !slices.Equal(c.All(), []int{1}) {
		t.Error("P23.2: at its time")
	}
	c.Tick(100)
	if !c.Due(1) || !c.Due(1) {
		t.Error("P23.3: what is due does not stay so")
	}
	c.Set(1, 106)
	if at, _ := c.At(1); at != 106 || c.Due(1) {
		t.Error("P23.2: an alarm set anew")
	}
	c.Set(1, -9)
	if !c.Due(1) || !c.Drop(1) || c.Due(1) || c.Drop(1) {
		t.Error("P23.2: Drop")
	}
	if at, ok := c.At(1); at != 0 || ok {
		t.Error("P23.2: At of a dropped one")
	}
}

func TestAll(t *testing.T) {
	c := New()
	for who, at := range map[int]int{3: 7, 1: 7, -2: 7, 9: 2, 8: math.MinInt, 4: 10, 5: 11, 6: math.MaxInt, math.MaxInt: 10, math.MinInt: 10} {
		c.Set(who, at)
	}
	c.Tick(10)
	if want := []int{8, 9, -2, 1, 3, math.MinInt, 4, math.MaxInt}; !slices.Equal(c.All(), want) {
		t.Errorf("P23.2: All: %v, not %v", c.All(), want)
	}
	c.All()[0] = 77
	if c.All()[0] != 8 {
		t.Error("P0.4: All hands out its memory")
	}
}
