package wire

import (
	"math"
	"testing"

	"henhouse/pack"
)

func TestBelow(t *testing.T) {
	for _, c := range []struct {
		n    int64
		most int
		want int
	}{{5, 5, 5}, {6, 5, 0}, {0, 0, 0}, {1, 0, 0}, {MostNum, MostNum, MostNum}, {MostNum + 1, MostNum, 0}, {math.MaxInt64, 1, 0}} {
		r := Read(pack.Num(nil, c.n))
		if got := r.Below(c.most); got != c.want || r.Done() != (c.n <= int64(c.most)) {
			t.Errorf("Below(%d) of %d: %d, done %v", c.most, c.n, got, r.Done())
		}
	}
}

func TestMarkFieldAndDone(t *testing.T) {
	r := Read([]byte("\x00\x01\x02ab"))
	if r.Mark() || !r.Mark() || r.Done() || r.Field() != "ab" || !r.Done() {
		t.Errorf("marks and a text: %d, %d left", r.Err(), r.Left())
	}
	if r.Field() != "" || r.Done() {
		t.Error("a text past the end")
	}
	r = Read([]byte{2})
	if r.Mark() || r.Done() {
		t.Error("a mark of 2")
	}
}
