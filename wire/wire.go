// Package wire reads what req and resp lay in bytes: numbers that may be no greater than some bound, to the last byte.
package wire

import (
	"henhouse/api"
	"henhouse/pack"
)

// MostNum is the greatest number that is no version and no token.
const MostNum = 1<<31 - 1

// Reader is pack's; wrong tells that a number was read that pack takes, and the one who asked for it does not.
type Reader struct {
	*pack.Reader
	wrong bool
}

// Read is a reader at b's beginning.
func Read(b []byte) *Reader { return &Reader{Reader: pack.Read(b)} }

// Below is the next number, that may be most at the greatest; 0 of a greater one.
func (r *Reader) Below(most int) int {
	n := r.Num()
	if n > int64(most) {
		r.wrong = true
		return 0
	}
	return int(n)
}

// Mark is the next number, that may be 0 or 1.
func (r *Reader) Mark() bool { return r.Below(1) == 1 }

// Field is the next text, as long as a frame's body may be.
func (r *Reader) Field() string { return r.Text(api.MaxFrame) }

// Done tells whether all has been read, and nothing was wrong.
func (r *Reader) Done() bool { return !r.wrong && r.Err() == api.OK && r.Left() == 0 }
