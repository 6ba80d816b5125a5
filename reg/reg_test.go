package reg

import (
	"math"
	"math/rand"
	"slices"
	"strconv"
	"strings"
	"testing"

	"henhouse/fnv"
)

func TestExample(t *testing.T) {
	r := New(4)
	if r.Find("ann/a") != -1 || r.Remove("ann/a", -1) || r.Remove("ann/a", 0) || r.Len() != 0 || len(r.Under("")) != 0 {
		t.Error("P21.1: New is not empty")
	}
	if !r.Add("ann/a", 4) || r.Find("ann/a") != 4 || r.Remove("ann/a", 3) || r.Remove("ann/a", -1) || r.Find("ann/a") != 4 {
		t.Error("P21.1: the example")
	}
	if r.Add("ann/a", 5) || r.Add("ann/a", 4) || r.Find("ann/a") != 4 {
		t.Error("P21.1: Add where something is")
	}
	if r.Add("ann/b", -1) || r.Add("ann/b", math.MinInt) || r.Len() != 1 {
		t.Error("P21.1: Add of an id below 0")
	}
	if !r.Add("", 0) || r.Find("") != 0 || !r.Add("ann/b", math.MaxInt) || r.Find("ann/b") != math.MaxInt {
		t.Error("P21.1: any key, any id from 0 on")
	}
	if !r.Remove("ann/a", 4) || r.Find("ann/a") != -1 || r.Remove("ann/a", 4) || r.Len() != 2 || !r.Add("ann/a", 9) {
		t.Error("P21.1: Remove")
	}
}

func TestAgainstAMap(t *testing.T) {
	rnd := rand.New(rand.NewSource(21))
	for _, shards := range []int{math.MinInt, 0, 1, 2, 5, 16, math.MaxInt} {
		r := New(shards)
		n := max(shards, 1)
		want := map[string]int{}
		for range 600 {
			key := string(rune('a'+rnd.Intn(3))) + "/" + strconv.Itoa(rnd.Intn(30))
			id := rnd.Intn(4)
			was, there := want[key]
			if rnd.Intn(2) == 0 {
				if r.Add(key, id) == there {
					t.Fatalf("P21.1: Add(%q, %d)", key, id)
				}
				if !there {
					want[key] = id
				}
			} else {
				if r.Remove(key, id) != (there && was == id) {
					t.Fatalf("P21.1: Remove(%q, %d)", key, id)
				}
				if there && was == id {
					delete(want, key)
				}
			}
		}
		loads := map[int]int{}
		for key, id := range want {
			loads[fnv.Shard(key, n)]++
			if r.Find(key) != id {
				t.Errorf("P21.1: Find(%q): %d", key, r.Find(key))
			}
		}
		if r.Len() != len(want) {
			t.Errorf("P21.2: Len %d, not %d", r.Len(), len(want))
		}
		for _, s := range []int{-1, 0, 1, 2, 3, 4, 5, 15, 16, math.MinInt, math.MaxInt} {
			if r.Load(s) != loads[s] {
				t.Errorf("P21.2: %d shards: Load(%d): %d, not %d", shards, s, r.Load(s), loads[s])
			}
		}
		for _, prefix := range []string{"", "a", "a/", "b/1", "c/29", "d", "/"} {
			var l []string
			for key := range want {
				if strings.HasPrefix(key, prefix) {
					l = append(l, key)
				}
			}
			slices.Sort(l)
			if got := r.Under(prefix); !slices.Equal(got, l) {
				t.Errorf("P21.2, P21.3: %d shards: Under(%q): %q, not %q", shards, prefix, got, l)
			}
		}
	}
}

func TestNewMemory(t *testing.T) {
	r := New(2)
	r.Add("a", 1)
	r.Add("b", 2)
	r.Under("")[0] = "z"
	if !slices.Equal(r.Under(""), []string{"a", "b"}) {
		t.Error("P0.4: Under hands out its memory")
	}
}
