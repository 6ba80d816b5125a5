package rw

import (
	"math/rand"
	"slices"
	"testing"
)

func holds(t *testing.T, l *Lock, holders, queue []int) {
	t.Helper()
	if !slices.Equal(l.Holders(), holders) || !slices.Equal(l.Queue(), queue) {
		t.Errorf("P22.1, P22.2: %v hold it, %v wait; not %v, %v", l.Holders(), l.Queue(), holders, queue)
	}
}

func TestExample(t *testing.T) {
	l := New()
	holds(t, l, nil, nil)
	if !l.Ask(1, false) || l.Ask(2, true) || l.Ask(3, false) {
		t.Error("P22.1: Ask")
	}
	holds(t, l, []int{1}, []int{2, 3})
	if l.State(1) != Reads || l.State(2) != Waits || l.State(3) != Waits || l.State(4) != None {
		t.Error("P22.2: State")
	}
	if came := l.Leave(1); !slices.Equal(came, []int{2}) || l.State(2) != Writes || l.State(1) != None {
		t.Errorf("P22.2: Leave: %v", came)
	}
	if came := l.Leave(2); !slices.Equal(came, []int{3}) || l.State(3) != Reads {
		t.Errorf("P22.2: Leave: %v", came)
	}
}

func TestAskTwice(t *testing.T) {
	l := New()
	l.Ask(1, true)
	l.Ask(2, false)
	for _, who := range []int{1, 2} {
		for _, write := range []bool{false, true} {
			if l.Ask(who, write) {
				t.Errorf("P22.1: %d asks again", who)
			}
		}
	}
	holds(t, l, []int{1}, []int{2})
	if l.State(1) != Writes {
		t.Error("P22.1: one who asks again is another one")
	}
}

func TestLeave(t *testing.T) {
	l := New()
	if came := l.Leave(5); len(came) != 0 {
		t.Errorf("P22.2: nobody leaves: %v", came)
	}
	l.Ask(9, false)
	l.Ask(-4, false)
	l.Ask(7, true)
	l.Ask(3, false)
	l.Ask(1, false)
	l.Ask(8, true)
	holds(t, l, []int{-4, 9}, []int{7, 3, 1, 8})
	// The one who kept the others waiting goes: these come in, in their order.
	if came := l.Leave(7); !slices.Equal(came, []int{3, 1}) {
		t.Errorf("P22.2: Leave of one who waits: %v", came)
	}
	holds(t, l, []int{-4, 1, 3, 9}, []int{8})
	if came := l.Leave(77); len(came) != 0 {
		t.Errorf("P22.2: a stranger leaves: %v", came)
	}
	for _, who := range []int{1, 9, -4} {
		if came := l.Leave(who); len(came) != 0 {
			t.Errorf("P22.2: %d leaves: %v", who, came)
		}
	}
	if came := l.Leave(3); !slices.Equal(came, []int{8}) {
		t.Errorf("P22.2: the last one leaves: %v", came)
	}
	l.Ask(2, false)
	if came := l.Leave(2); len(came) != 0 {
		t.Errorf("P22.2: %v", came)
	}
	l.Leave(8)
	holds(t, l, nil, nil)
	if !l.Ask(8, true) || l.State(8) != Writes {
		t.Error("P22.1: Ask of a lock that is free again")
	}
}

// slow is the lock as the document tells it.
type slow struct {
	order  []int
	writes map[int]bool
	inside map[int]bool
}

func (s *slow) move() []int {
	var came []int
	for _, who := range slices.Clone(s.order) {
		if s.inside[who] {
			continue
		}
		writer := false
		for x := range s.inside {
			writer = writer || s.writes[x]
		}
		if writer || s.writes[who] && len(s.inside) > 0 {
			break
		}
		s.inside[who] = true
		came = append(came, who)
	}
	return came
}

func TestAgainstTheSlowOne(t *testing.T) {
	r := rand.New(rand.NewSource(22))
	for range 200 {
		l := New()
		s := &slow{writes: map[int]bool{}, inside: map[int]bool{}}
		for range 80 {
			who := r.Intn(7) - 2
			asked := slices.Contains(s.order, who)
			if r.Intn(2) == 0 {
				write := r.Intn(2) == 0
				want := false
				if !asked {
					s.order = append(s.order, who)
					s.writes[who] = write
					s.move()
					want = s.inside[who]
				}
				if l.Ask(who, write) != want {
					t.Fatalf("P22.1: Ask(%d, %v) is not %v", who, write, want)
				}
			} else {
				var want []int
				if asked {
					s.order = slices.DeleteFunc(s.order, func(x int) bool { return x == who })
					delete(s.writes, who)
					delete(s.inside, who)
					want = s.move()
				}
				if came := l.Leave(who); !slices.Equal(came, want) {
					t.Fatalf("P22.2: Leave(%d): %v, not %v", who, came, want)
				}
			}
			var holders, queue []int
			for _, x := range s.order {
				if s.inside[x] {
					holders = append(holders, x)
				} else {
					queue = append(queue, x)
				}
			}
			slices.Sort(holders)
			if !slices.Equal(l.Holders(), holders) || !slices.Equal(l.Queue(), queue) {
				t.Fatalf("P22.1, P22.2: %v, %v, not %v, %v", l.Holders(), l.Queue(), holders, queue)
			}
			alone(t, l, s.writes)
		}
	}
}

func alone(t *testing.T, l *Lock, writes map[int]bool) {
	t.Helper()
	for _, who := range l.Holders() {
		want := Reads
		if writes[who] {
			want = Writes
		}
		if l.State(who) != want || want == Writes && len(l.Holders()) != 1 {
			t.Fatalf("P22.3: %d is %d among %v", who, l.State(who), l.Holders())
		}
	}
	for _, who := range l.Queue() {
		if l.State(who) != Waits {
			t.Fatalf("P22.2: State(%d): %d", who, l.State(who))
		}
	}
}

func TestNewMemory(t *testing.T) {
	l := New()
	l.Ask(1, true)
	l.Ask(2, true)
	l.Ask(3, true)
	l.Holders()[0] = 9
	q := l.Queue()
	q[0] = 9
	_ = append(q[:1], 8)
	holds(t, l, []int{1}, []int{2, 3})
	came := l.Leave(1)
	came[0] = 7
	holds(t, l, []int{2}, []int{3})
}
