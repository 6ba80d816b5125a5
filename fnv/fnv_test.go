package fnv

import (
	"hash/fnv"
	"math"
	"math/big"
	"math/rand"
	"testing"
)

func names() []string {
	r := rand.New(rand.NewSource(20))
	l := []string{"", "a", "ann/home", "\x00", "\xff\xff", "bob/work"}
	for range 300 {
		b := make([]byte, r.Intn(40))
		r.Read(b)
		l = append(l, string(b))
	}
	return l
}

func TestSum(t *testing.T) {
	if Sum("") != 14695981039346656037 || Sum("a") != 12638187200555641996 {
		t.Errorf("P20.1: %d, %d", Sum(""), Sum("a"))
	}
	for _, s := range names() {
		h := fnv.New64a()
		h.Write([]byte(s))
		if Sum(s) != h.Sum64() {
			t.Errorf("P20.1: Sum(%q): %d", s, Sum(s))
		}
	}
}

func TestShard(t *testing.T) {
	for _, s := range names() {
		for _, n := range []int{1, 2, 3, 7, 16, 1 << 40, math.MaxInt} {
			want := new(big.Int).Mod(new(big.Int).SetUint64(Sum(s)), big.NewInt(int64(n)))
			got := Shard(s, n)
			if int64(got) != want.Int64() || got < 0 || got >= n {
				t.Errorf("P20.2, P20.3: Shard(%q, %d): %d", s, n, got)
			}
		}
		for _, n := range []int{0, -1, math.MinInt} {
			if got := Shard(s, n); got != 0 {
				t.Errorf("P20.2: Shard(%q, %d): %d", s, n, got)
			}
		}
	}
}
