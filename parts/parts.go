// Package parts: what rows, forms and changes are made of: numbers and texts, one behind the other.
// It stands on pack.
package parts

import (
	"mailsack/api"
	"mailsack/pack"
)

// Numbers puts numbers behind b, which is the caller's own, and may be written to behind its length.
// Each is packed by itself: pack copies what it is to put a number behind.
func Numbers(b []byte, numbers ...int) []byte {
	for _, n := range numbers {
		b = append(b, pack.Number(nil, n)...)
	}
	return b
}

// Text puts s behind b, likewise.
func Text(b []byte, s string) []byte {
	return append(b, pack.Text(nil, s)...)
}

// Reader is pack's, but it also refuses what is greater than it may be.
type Reader struct {
	*pack.Reader
	refused bool
}

// NewReader makes a reader of a copy of b.
func NewReader(b []byte) *Reader {
	return &Reader{Reader: pack.NewReader(b)}
}

// Refuse says that what was read last is no such thing.
func (r *Reader) Refuse() {
	if r.Err() == api.OK {
		r.refused = true
	}
}

// Err tells the first error.
func (r *Reader) Err() api.Errno {
	// Nothing is refused behind an error of pack's reader; so what was refused came ahead of it.
	if r.refused {
		return api.ErrForm
	}
	return r.Reader.Err()
}

// upTo tells n, that was read last: 0, and it is refused, if it is more than most.
func (r *Reader) upTo(most, n int) int {
	if n > most {
		r.Refuse()
		return 0
	}
	return n
}

// NumberTo reads a number of most at most.
func (r *Reader) NumberTo(most int) int {
	return r.upTo(most, r.Number())
}

// FixedTo reads a number of most at most, in four bytes.
func (r *Reader) FixedTo(most int) int {
	return r.upTo(most, r.Fixed())
}
