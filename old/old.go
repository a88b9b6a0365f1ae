// Package old: the two old forms, which say the same in the same order, but for changes.
// It stands on pack, box and parts. The tests of form1 and form2, which stand on it, are its tests, too.
package old

import (
	"bytes"

	"mailsack/api"
	"mailsack/box"
	"mailsack/pack"
	"mailsack/parts"
)

// Form is one of the two.
type Form struct {
	Mark    string // what it begins with
	Changes bool   // it says High, and each message's Mod
}

// appendFixed puts numbers behind b, which is the package's own.
// Each is packed by itself: pack copies what it is to put a number behind.
func appendFixed(b []byte, numbers ...int) []byte {
	for _, n := range numbers {
		b = append(b, pack.Fixed(nil, n)...)
	}
	return b
}

// appendChange puts a High or a Mod behind b, where the form says it.
func (f Form) appendChange(b []byte, n int) []byte {
	if !f.Changes {
		return b
	}
	return appendFixed(b, n)
}

// bitsOf tells keys as bits; those that an old form does not know are left out.
func bitsOf(keys []int) int {
	bits := 0
	for _, key := range keys {
		if key < api.OldWords {
			bits |= 1 << key
		}
	}
	return bits
}

// keysOf tells the keys, rising, of which bits has the bits.
func keysOf(bits int) []int {
	var keys []int
	for key := range api.OldWords {
		if bits&(1<<key) != 0 {
			keys = append(keys, key)
		}
	}
	return keys
}

// appendMsg puts m behind b, which is the package's own.
func (f Form) appendMsg(b []byte, m api.Msg) []byte {
	b = f.appendChange(appendFixed(b, m.UID), m.Mod)
	b = appendFixed(b, m.Date)
	b = append(b, byte(m.Flags))
	b = appendFixed(b, bitsOf(m.Keys), len(m.Text))
	return append(b, m.Text...)
}

// Bytes tells b in the form, less what the form does not know.
func (f Form) Bytes(b api.Box) ([]byte, api.Errno) {
	if box.May(b) != api.OK {
		return nil, api.ErrArg
	}
	words := b.Words[:min(len(b.Words), api.OldWords)]
	raw := f.appendChange(appendFixed([]byte(f.Mark), b.Valid, b.Next), b.High)
	raw = appendFixed(raw, len(words))
	for _, word := range words {
		raw = parts.Text(raw, word)
	}
	raw = appendFixed(raw, len(b.Msgs))
	for _, m := range b.Msgs {
		raw = f.appendMsg(raw, m)
	}
	return raw, api.OK
}

// reader reads what a form is made of.
type reader struct {
	*parts.Reader
	form Form
}

// change reads a High or a Mod: 1, where the form does not say it.
func (r reader) change() int {
	if !r.form.Changes {
		return 1
	}
	return r.Fixed()
}

// text reads a message's text.
func (r reader) text() string {
	raw := make([]byte, r.FixedTo(api.MaxText))
	for i := range raw {
		raw[i] = byte(r.Byte())
	}
	return string(raw)
}

// msg reads a message of the box id.
func (r reader) msg(id string) api.Msg {
	var m api.Msg
	m.UID = r.Fixed()
	m.Mod = r.change()
	m.Date = r.Fixed()
	m.ID = box.Own(id, m.UID)
	m.Flags = r.Byte()
	m.Keys = keysOf(r.Fixed())
	m.Text = r.text()
	return m
}

// box reads the box id.
func (r reader) box(id string) api.Box {
	b := api.Box{ID: id}
	b.Valid = r.Fixed()
	b.Next = r.Fixed()
	b.High = r.change()
	for range r.FixedTo(api.OldWords) {
		b.Words = append(b.Words, r.Text(api.MaxName))
	}
	for range r.FixedTo(api.MaxMsgs) {
		b.Msgs = append(b.Msgs, r.msg(id))
	}
	return b
}

// Parse tells the box id that b is.
func (f Form) Parse(b []byte, id string) (api.Box, api.Errno) {
	rest, begins := bytes.CutPrefix(b, []byte(f.Mark))
	if !begins {
		return api.Box{}, api.ErrForm
	}
	r := reader{parts.NewReader(rest), f}
	x := r.box(id)
	if e := r.Err(); e != api.OK {
		return api.Box{}, e
	}
	if r.Left() > 0 || box.May(x) != api.OK {
		return api.Box{}, api.ErrForm
	}
	return x, api.OK
}
