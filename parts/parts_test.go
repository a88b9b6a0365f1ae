package parts_test

import (
	"bytes"
	"testing"

	"mailsack/api"
	"mailsack/parts"
)

// TestWrites: numbers and a text, one behind the other.
func TestWrites(t *testing.T) {
	got := parts.Text(parts.Numbers([]byte{9}, 1, 300, -1), "hi")
	if !bytes.Equal(got, []byte{9, 1, 0xac, 2, 0, 2, 'h', 'i'}) {
		t.Errorf("%x", got)
	}
	if got := parts.Numbers([]byte{9}); !bytes.Equal(got, []byte{9}) {
		t.Errorf("no numbers: %x", got)
	}
}

// TestReads: as much as may be is read as it is.
func TestReads(t *testing.T) {
	r := parts.NewReader([]byte{0xac, 2, 0, 0, 0, 7, 1, 'a', 5})
	if r.NumberTo(300) != 300 || r.FixedTo(7) != 7 || r.Text(1) != "a" || r.Err() != api.OK || r.Left() != 1 {
		t.Error("what may be is refused")
	}
}

// TestRefuses: a number that is more than it may be is 0, and ErrForm stays, whatever is met behind it.
func TestRefuses(t *testing.T) {
	for i, read := range []func(r *parts.Reader) int{
		func(r *parts.Reader) int { return r.NumberTo(0) },
		func(r *parts.Reader) int { return r.FixedTo(1<<24 - 1) },
		func(r *parts.Reader) int { r.Byte(); r.Refuse(); return 0 },
	} {
		r := parts.NewReader([]byte{1, 0, 0, 0})
		if n := read(r); n != 0 || r.Err() != api.ErrForm {
			t.Errorf("%d: %d, error %d", i, n, r.Err())
		}
		r.Text(300)
		r.Fixed()
		r.Fixed()
		if r.Err() != api.ErrForm {
			t.Errorf("%d: error %d behind it", i, r.Err())
		}
	}
}

// TestErrorsFirst: what pack's reader refuses stays its error, whatever is refused behind it.
func TestErrorsFirst(t *testing.T) {
	r := parts.NewReader([]byte{0, 0, 0})
	if n := r.FixedTo(-1); n != 0 || r.Err() != api.ErrShort {
		t.Errorf("%d, error %d", n, r.Err())
	}
	r.Refuse()
	if n := r.NumberTo(-1); n != 0 || r.Err() != api.ErrShort {
		t.Errorf("behind it: %d, error %d", n, r.Err())
	}
}
