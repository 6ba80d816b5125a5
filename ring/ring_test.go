package ring

import (
	"math"
	"slices"
	"testing"
)

func contents(r *Ring[int]) []int {
	var l []int
	for i, x := range r.All() {
		if i != len(l) {
			return nil
		}
		l = append(l, x)
	}
	return l
}

func TestExample(t *testing.T) {
	r := New[int](2)
	if old, gone := r.Push(1); old != 0 || gone {
		t.Errorf("P15.1: %d, %v", old, gone)
	}
	if old, gone := r.Push(2); old != 0 || gone {
		t.Errorf("P15.1: %d, %v", old, gone)
	}
	if old, gone := r.Push(3); old != 1 || !gone {
		t.Errorf("P15.1: %d, %v", old, gone)
	}
	if x, ok := r.At(0); x != 2 || !ok {
		t.Errorf("P15.1: At(0): %d, %v", x, ok)
	}
}

func TestKeepsTheLast(t *testing.T) {
	for _, most := range []int{math.MinInt, -1, 0, 1, 2, 3, 7, 100, math.MaxInt} {
		keeps := max(most, 1)
		r := New[int](most)
		var want []int
		for x := range 40 {
			want = append(want, x+100)
			out := 0
			if len(want) > keeps {
				out = want[0]
				want = want[1:]
			}
			if old, gone := r.Push(x + 100); old != out || gone != (out != 0) {
				t.Fatalf("P15.1: most %d: Push %d: %d, %v", most, x, old, gone)
			}
			back := slices.Collect(r.Back())
			slices.Reverse(back)
			if r.Len() != len(want) || !slices.Equal(contents(r), want) || !slices.Equal(back, want) {
				t.Fatalf("P15.1, P15.2, P15.3: most %d: %v, %v, not %v", most, contents(r), back, want)
			}
			for i := -1; i <= len(want); i++ {
				y, ok := r.At(i)
				if i < 0 || i == len(want) {
					if y != 0 || ok {
						t.Fatalf("P15.1: At(%d): %d", i, y)
					}
				} else if y != want[i] || !ok {
					t.Fatalf("P15.1: At(%d): %d, not %d", i, y, want[i])
				}
			}
		}
	}
}

func TestEmptyAndEdges(t *testing.T) {
	r := New[string](3)
	if r.Len() != 0 || len(slices.Collect(r.Back())) != 0 {
		t.Error("P15.1: New is not empty")
	}
	for range r.All() {
		t.Error("P15.2: All of nothing")
	}
	r.Push("a")
	for _, i := range []int{math.MinInt, -1, 1, math.MaxInt} {
		if x, ok := r.At(i); x != "" || ok {
			t.Errorf("P15.1: At(%d): %q", i, x)
		}
	}
}

func TestGoingThroughEnds(t *testing.T) {
	r := New[int](5)
	for x := range 8 {
		r.Push(x)
	}
	for stop := range 5 {
		n := 0
		for range r.All() {
			if n++; n > stop {
				break
			}
		}
		b := 0
		for range r.Back() {
			if b++; b > stop {
				break
			}
		}
		if n != stop+1 || b != stop+1 {
			t.Errorf("P15.2: asked for %d: %d, %d", stop+1, n, b)
		}
	}
	grows := New[int](math.MaxInt)
	grows.Push(1)
	n := 0
	for range grows.All() {
		grows.Push(1)
		n++
	}
	for range grows.Back() {
		grows.Push(1)
		n++
	}
	if n > 4 {
		t.Errorf("P0.1: %d steps", n)
	}
}
