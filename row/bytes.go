package row

import (
	"slices"

	"mailsack/api"
	"mailsack/box"
	"mailsack/pack"
)

// appendNumbers puts numbers behind b, which is the package's own.
// Each is packed by itself: pack copies what it is to put a number behind.
func appendNumbers(b []byte, numbers ...int) []byte {
	for _, n := range numbers {
		b = append(b, pack.Number(nil, n)...)
	}
	return b
}

// appendText puts s behind b, which is the package's own.
func appendText(b []byte, s string) []byte {
	return append(b, pack.Text(nil, s)...)
}

// appendFlags puts m's flags and keywords behind b, which is the package's own.
func appendFlags(b []byte, m api.Msg) []byte {
	b = appendNumbers(b, m.Flags, len(m.Keys))
	return appendNumbers(b, m.Keys...)
}

// appendMsg puts m behind b, which is the package's own.
func appendMsg(b []byte, m api.Msg) []byte {
	b = appendNumbers(b, m.UID, m.Mod, m.Date)
	b = appendText(b, m.ID)
	b = appendFlags(b, m)
	return appendText(b, m.Text)
}

// appendRow puts r behind b, which is the package's own.
func appendRow(b []byte, r api.Row) []byte {
	b = appendNumbers(b, r.Kind)
	switch r.Kind {
	case api.RAdd:
		return appendMsg(b, r.Msg)
	case api.RFlags:
		return appendFlags(appendNumbers(b, r.UID, r.Mod), r.Msg)
	case api.RCut, api.RMod:
		return appendNumbers(b, r.UID, r.Mod)
	case api.RWord:
		return appendText(b, r.Text)
	case api.RName:
		return appendText(appendNumbers(b, r.UID), r.Text)
	case api.RHigh:
		return appendNumbers(b, r.Mod)
	}
	return b
}

// Bytes tells l as bytes: nothing, where Parse would not tell l back.
func Bytes(l []api.Row) []byte {
	if len(l) > api.MaxRows {
		return nil
	}
	var b []byte
	for _, r := range l {
		x := appendRow(nil, r)
		// What is too great, or has no place in the bytes, is found by reading them back: what rows may be is said once.
		if back, e := Parse(x); e != api.OK || !Same(back, []api.Row{r}) {
			return nil
		}
		b = append(b, x...)
	}
	return b
}

// reader reads what rows are made of. Behind an error all that it tells is zero.
type reader struct {
	bytes *pack.Reader
	err   api.Errno
}

// number reads a number of most at most.
func (r *reader) number(most int) int {
	if r.err != api.OK {
		return 0
	}
	n := r.bytes.Number()
	r.err = r.bytes.Err()
	if n > most {
		r.err = api.ErrForm
		return 0
	}
	return n
}

// text reads a text of most bytes at most.
func (r *reader) text(most int) string {
	if r.err != api.OK {
		return ""
	}
	s := r.bytes.Text(most)
	r.err = r.bytes.Err()
	return s
}

// keys reads how many keywords there are, and each.
func (r *reader) keys() []int {
	var keys []int
	for range r.number(api.MaxWords) {
		keys = append(keys, r.number(api.MaxWords-1))
	}
	return keys
}

// msg reads a message.
func (r *reader) msg() api.Msg {
	var m api.Msg
	m.UID = r.number(api.MaxUID)
	m.Mod = r.number(api.MaxUID)
	m.Date = r.number(api.MaxUID)
	m.ID = r.text(api.MaxName)
	m.Flags = r.number(api.MaxUID)
	m.Keys = r.keys()
	m.Text = r.text(api.MaxText)
	return m
}

// row reads a row.
func (r *reader) row() api.Row {
	x := api.Row{Kind: r.number(api.MaxUID)}
	switch x.Kind {
	case api.RAdd:
		x.Msg = r.msg()
	case api.RFlags:
		x.UID = r.number(api.MaxUID)
		x.Mod = r.number(api.MaxUID)
		x.Msg.Flags = r.number(api.MaxUID)
		x.Msg.Keys = r.keys()
	case api.RCut, api.RMod:
		x.UID = r.number(api.MaxUID)
		x.Mod = r.number(api.MaxUID)
	case api.RWord:
		x.Text = r.text(api.MaxName)
	case api.RName:
		x.UID = r.number(api.MaxUID)
		x.Text = r.text(api.MaxName)
	case api.RHigh:
		x.Mod = r.number(api.MaxUID)
	default:
		// A Kind that could not be read is 0, too, and has its error already.
		if r.err == api.OK {
			r.err = api.ErrForm
		}
	}
	return x
}

// Parse tells the rows that b is.
func Parse(b []byte) ([]api.Row, api.Errno) {
	r := reader{bytes: pack.NewReader(b)}
	var l []api.Row
	for r.bytes.Left() > 0 {
		if len(l) == api.MaxRows {
			return nil, api.ErrFull
		}
		x := r.row()
		if r.err != api.OK {
			return nil, r.err
		}
		l = append(l, x)
	}
	return l, api.OK
}

// alone is a box of m and nothing else.
func alone(m api.Msg) api.Box {
	return api.Box{Msgs: []api.Msg{m}}
}

// sameRow tells whether two rows are alike in all.
func sameRow(a, b api.Row) bool {
	return a.Kind == b.Kind && a.UID == b.UID && a.Mod == b.Mod && a.Text == b.Text && box.Same(alone(a.Msg), alone(b.Msg))
}

// Same tells whether two lists of rows are alike in all.
func Same(a, b []api.Row) bool {
	return slices.EqualFunc(a, b, sameRow)
}
