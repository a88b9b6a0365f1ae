package row

import (
	"slices"

	"mailsack/api"
	"mailsack/box"
	"mailsack/parts"
)

// appendFlags puts m's flags and keywords behind b, which is the package's own.
func appendFlags(b []byte, m api.Msg) []byte {
	b = parts.Numbers(b, m.Flags, len(m.Keys))
	return parts.Numbers(b, m.Keys...)
}

// appendMsg puts m behind b, which is the package's own.
func appendMsg(b []byte, m api.Msg) []byte {
	b = parts.Numbers(b, m.UID, m.Mod, m.Date)
	b = parts.Text(b, m.ID)
	b = appendFlags(b, m)
	return parts.Text(b, m.Text)
}

// appendRow puts r behind b, which is the package's own.
func appendRow(b []byte, r api.Row) []byte {
	b = parts.Numbers(b, r.Kind)
	switch r.Kind {
	case api.RAdd:
		return appendMsg(b, r.Msg)
	case api.RFlags:
		return appendFlags(parts.Numbers(b, r.UID, r.Mod), r.Msg)
	case api.RCut, api.RMod:
		return parts.Numbers(b, r.UID, r.Mod)
	case api.RWord:
		return parts.Text(b, r.Text)
	case api.RName:
		return parts.Text(parts.Numbers(b, r.UID), r.Text)
	case api.RHigh:
		return parts.Numbers(b, r.Mod)
	}
	return b
}

// Bytes tells l as bytes: nothing, where Parse would not tell l back.
func Bytes(l []api.Row) []byte {
	if len(l) > api.MaxRows {
		return nil
	}
	var b []byte
	for _, r := range l {
		x := appendRow(nil, r)
		// What is too great, or has no place in the bytes, is found by reading them back: what rows may be is said once.
		if back, e := Parse(x); e != api.OK || !Same(back, []api.Row{r}) {
			return nil
		}
		b = append(b, x...)
	}
	return b
}

// reader reads what rows are made of.
type reader struct {
	*parts.Reader
}

// keys reads how many keywords there are, and each.
func (r reader) keys() []int {
	var keys []int
	for range r.NumberTo(api.MaxWords) {
		keys = append(keys, r.NumberTo(api.MaxWords-1))
	}
	return keys
}

// msg reads a message.
func (r reader) msg() api.Msg {
	var m api.Msg
	m.UID = r.NumberTo(api.MaxUID)
	m.Mod = r.NumberTo(api.MaxUID)
	m.Date = r.NumberTo(api.MaxUID)
	m.ID = r.Text(api.MaxName)
	m.Flags = r.NumberTo(api.MaxUID)
	m.Keys = r.keys()
	m.Text = r.Text(api.MaxText)
	return m
}

// row reads a row.
func (r reader) row() api.Row {
	x := api.Row{Kind: r.NumberTo(api.MaxUID)}
	switch x.Kind {
	case api.RAdd:
		x.Msg = r.msg()
	case api.RFlags:
		x.UID = r.NumberTo(api.MaxUID)
		x.Mod = r.NumberTo(api.MaxUID)
		x.Msg.Flags = r.NumberTo(api.MaxUID)
		x.Msg.Keys = r.keys()
	case api.RCut, api.RMod:
		x.UID = r.NumberTo(api.MaxUID)
		x.Mod = r.NumberTo(api.MaxUID)
	case api.RWord:
		x.Text = r.Text(api.MaxName)
	case api.RName:
		x.UID = r.NumberTo(api.MaxUID)
		x.Text = r.Text(api.MaxName)
	case api.RHigh:
		x.Mod = r.NumberTo(api.MaxUID)
	default:
		r.Refuse()
	}
	return x
}

// Parse tells the rows that b is.
func Parse(b []byte) ([]api.Row, api.Errno) {
	r := reader{parts.NewReader(b)}
	var l []api.Row
	for r.Left() > 0 {
		if len(l) == api.MaxRows {
			return nil, api.ErrFull
		}
		x := r.row()
		if e := r.Err(); e != api.OK {
			return nil, e
		}
		l = append(l, x)
	}
	return l, api.OK
}

// alone is a box of m and nothing else.
func alone(m api.Msg) api.Box {
	return api.Box{Msgs: []api.Msg{m}}
}

// sameRow tells whether two rows are alike in all.
func sameRow(a, b api.Row) bool {
	return a.Kind == b.Kind && a.UID == b.UID && a.Mod == b.Mod && a.Text == b.Text && box.Same(alone(a.Msg), alone(b.Msg))
}

// Same tells whether two lists of rows are alike in all.
func Same(a, b []api.Row) bool {
	return slices.EqualFunc(a, b, sameRow)
}
