package hub

import (
	"math/rand"
	"slices"
	"testing"
)

func TestExample(t *testing.T) {
	h := New()
	if h.Len() != 0 || len(h.At(7)) != 0 || h.Woken(3) || h.Remove(3) || len(h.Wake(7)) != 0 {
		t.Error("P24.1: New is not empty")
	}
	if !h.Add(3, 7) || !h.Add(1, 7) || !h.Add(2, 8) {
		t.Error("P24.1: Add")
	}
	if !slices.Equal(h.At(7), []int{3, 1}) || h.Len() != 3 || h.Woken(3) {
		t.Errorf("P24.2: At: %v", h.At(7))
	}
	if l := h.Wake(7); !slices.Equal(l, []int{3, 1}) || !h.Woken(3) || !h.Woken(1) || h.Woken(2) {
		t.Errorf("P24.2: Wake: %v", l)
	}
	if l := h.Wake(7); len(l) != 0 || !h.Woken(3) {
		t.Errorf("P24.2, P24.3: Wake again: %v", l)
	}
	h.Add(5, 7)
	if l := h.Wake(7); !slices.Equal(l, []int{5}) || !slices.Equal(h.At(7), []int{3, 1, 5}) {
		t.Errorf("P24.2: Wake of one more: %v", l)
	}
	if h.Add(3, 7) || h.Add(3, 8) || !h.Woken(3) || len(h.At(8)) != 1 {
		t.Error("P24.1: Add of one who waits")
	}
	if !h.Remove(3) || h.Remove(3) || h.Woken(3) || !slices.Equal(h.At(7), []int{1, 5}) || h.Len() != 3 {
		t.Error("P24.1: Remove")
	}
	if !h.Add(3, 7) || h.Woken(3) || !slices.Equal(h.At(7), []int{1, 5, 3}) {
		t.Error("P24.1: Add behind Remove")
	}
}

func TestAgainstAModel(t *testing.T) {
	type one struct {
		who, place int
		woken      bool
	}
	r := rand.New(rand.NewSource(24))
	h := New()
	var all []one
	find := func(who int) int { return slices.IndexFunc(all, func(o one) bool { return o.who == who }) }
	for range 5000 {
		who, place := r.Intn(9)-3, r.Intn(4)-1
		i := find(who)
		switch r.Intn(3) {
		case 0:
			if h.Add(who, place) != (i < 0) {
				t.Fatalf("P24.1: Add(%d, %d)", who, place)
			}
			if i < 0 {
				all = append(all, one{who: who, place: place})
			}
		case 1:
			if h.Remove(who) != (i >= 0) {
				t.Fatalf("P24.1: Remove(%d)", who)
			}
			if i >= 0 {
				all = slices.Delete(all, i, i+1)
			}
		case 2:
			var want []int
			for k := range all {
				if all[k].place == place && !all[k].woken {
					all[k].woken = true
					want = append(want, all[k].who)
				}
			}
			if l := h.Wake(place); !slices.Equal(l, want) {
				t.Fatalf("P24.2: Wake(%d): %v, not %v", place, l, want)
			}
		}
		var at []int
		for _, o := range all {
			if o.place == place {
				at = append(at, o.who)
			}
		}
		i = find(who)
		if !slices.Equal(h.At(place), at) || h.Len() != len(all) || h.Woken(who) != (i >= 0 && all[i].woken) {
			t.Fatalf("P24.2: At(%d): %v, not %v; Len %d", place, h.At(place), at, h.Len())
		}
	}
}

func TestNewMemory(t *testing.T) {
	h := New()
	h.Add(1, 1)
	h.Add(2, 1)
	h.Add(3, 1)
	l := h.At(1)
	l[0] = 9
	_ = append(l[:1], 8)
	w := h.Wake(1)
	w[0] = 7
	if !slices.Equal(h.At(1), []int{1, 2, 3}) {
		t.Errorf("P0.4: At hands out its memory: %v", h.At(1))
	}
}
