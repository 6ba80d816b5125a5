package omap

import (
	"maps"
	"math"
	"math/rand"
	"slices"
	"strconv"
	"strings"
	"testing"
)

// sound tells whether the tree's keys rise, its sizes are right, and no side is too heavy.
func sound[V any](n *node[V]) bool {
	if n == nil {
		return true
	}
	l, r := size(n.left), size(n.right)
	if n.size != l+1+r || l+r >= 2 && (l > heavy*r || r > heavy*l) {
		return false
	}
	if n.left != nil && n.left.key >= n.key || n.right != nil && n.right.key <= n.key {
		return false
	}
	return sound(n.left) && sound(n.right)
}

func TestAgainstAMap(t *testing.T) {
	r := rand.New(rand.NewSource(14))
	for round := range 60 {
		m := New[int]()
		want := map[string]int{}
		keys := 1 + r.Intn(60)
		for step := range 400 {
			k := strconv.Itoa(r.Intn(keys))
			_, there := want[k]
			if r.Intn(3) > 0 {
				want[k] = step
				if m.Put(k, step) == there {
					t.Fatalf("P14.1: Put(%q)", k)
				}
			} else {
				delete(want, k)
				if m.Del(k) != there {
					t.Fatalf("P14.1: Del(%q)", k)
				}
			}
			if m.Len() != len(want) || !sound(m.root) {
				t.Fatalf("P14.1: round %d, step %d: %d keys", round, step, m.Len())
			}
		}
		compare(t, m, want, keys)
	}
}

func compare(t *testing.T, m *Map[int], want map[string]int, keys int) {
	t.Helper()
	rising := slices.Sorted(maps.Keys(want))
	if !slices.Equal(m.Keys(), rising) {
		t.Fatalf("P14.2: Keys: %q, not %q", m.Keys(), rising)
	}
	for i := -2; i < len(rising)+2; i++ {
		k, v, ok := m.At(i)
		if i < 0 || i >= len(rising) {
			if k != "" || v != 0 || ok {
				t.Fatalf("P14.2: At(%d): %q, %d", i, k, v)
			}
		} else if k != rising[i] || v != want[k] || !ok {
			t.Fatalf("P14.2: At(%d): %q, %d, %v", i, k, v, ok)
		}
	}
	for i := range keys {
		k := strconv.Itoa(i)
		v, ok := m.Get(k)
		w, there := want[k]
		below := 0
		for _, x := range rising {
			if x < k {
				below++
			}
		}
		if v != w || ok != there || m.Place(k) != below {
			t.Fatalf("P14.1, P14.2: %q: %d, %v, place %d", k, v, ok, m.Place(k))
		}
	}
	for _, prefix := range []string{"", "1", "12", "2", "x", "59"} {
		var got, under []string
		for k, v := range m.Under(prefix) {
			if v != want[k] {
				t.Fatalf("P14.2: Under(%q): %q, %d", prefix, k, v)
			}
			got = append(got, k)
		}
		for _, k := range rising {
			if strings.HasPrefix(k, prefix) {
				under = append(under, k)
			}
		}
		if !slices.Equal(got, under) {
			t.Fatalf("P14.2: Under(%q): %q, not %q", prefix, got, under)
		}
	}
}

func TestExampleAndEdges(t *testing.T) {
	m := New[string]()
	if m.Len() != 0 || len(m.Keys()) != 0 || m.Place("z") != 0 || m.Del("a") {
		t.Error("P14.1: New is not empty")
	}
	if v, ok := m.Get(""); v != "" || ok {
		t.Error("P14.1: Get of nothing")
	}
	if !m.Put("b", "B") || !m.Put("a", "A") || m.Put("b", "C") {
		t.Error("P14.1: Put")
	}
	if !slices.Equal(m.Keys(), []string{"a", "b"}) || m.Place("b") != 1 || m.Place("a") != 0 || m.Place("c") != 2 || m.Place("") != 0 {
		t.Error("P14.2: the example")
	}
	if v, ok := m.Get("b"); v != "C" || !ok {
		t.Errorf("P14.3: Get: %q, %v", v, ok)
	}
	if !m.Put("", "empty") || m.Place("a") != 1 {
		t.Error("P14.1: the empty key")
	}
	for _, i := range []int{math.MinInt, -1, 3, math.MaxInt} {
		if k, v, ok := m.At(i); k != "" || v != "" || ok {
			t.Errorf("P14.2: At(%d): %q, %q", i, k, v)
		}
	}
	// Byte by byte: what is not ASCII is behind what is, what ends first is ahead.
	for _, k := range []string{"\xff", "\u00e4", "A", "aa"} {
		m.Put(k, k)
	}
	if want := []string{"", "A", "a", "aa", "b", "\u00e4", "\xff"}; !slices.Equal(m.Keys(), want) {
		t.Errorf("P14.2: %q", m.Keys())
	}
}

func TestGoingThroughEnds(t *testing.T) {
	m := New[int]()
	for i := range 100 {
		m.Put(strconv.Itoa(i), i)
	}
	for stop := range 12 {
		n := 0
		for range m.All() {
			if n++; n > stop {
				break
			}
		}
		u := 0
		for range m.Under("1") {
			if u++; u > stop {
				break
			}
		}
		if n != stop+1 || u != min(stop+1, 11) {
			t.Errorf("P14.2: asked for %d: %d, %d", stop+1, n, u)
		}
	}
	// What is put while one goes through never keeps him going on for ever.
	n := 0
	for k := range m.All() {
		m.Put(k+"x", 0)
		m.Del(k)
		n++
	}
	if n != 100 || m.Len() != 100 {
		t.Errorf("P0.1: %d steps, %d keys", n, m.Len())
	}
	// The same iterator goes through the map as it is when it is asked.
	all := m.All()
	m.Put("zz", 1)
	n = 0
	for range all {
		n++
	}
	if n != 101 {
		t.Errorf("P14.2: %d keys", n)
	}
}

func TestManyKeysInOrder(t *testing.T) {
	m := New[struct{}]()
	const many = 50000
	for i := range many {
		m.Put(strconv.Itoa(1000000+i), struct{}{})
	}
	if !sound(m.root) || m.Len() != many {
		t.Fatal("P14.1: many keys, rising")
	}
	for i := range many - 10 {
		m.Del(strconv.Itoa(1000000 + i))
	}
	if !sound(m.root) || m.Len() != 10 {
		t.Fatal("P14.1: many keys taken away")
	}
}

func TestKeysAreNewMemory(t *testing.T) {
	m := New[int]()
	m.Put("a", 1)
	m.Put("b", 2)
	x := m.Keys()
	x[0] = "z"
	_ = append(x, "y")
	if !slices.Equal(m.Keys(), []string{"a", "b"}) {
		t.Error("P0.4: Keys hands out its memory")
	}
}
