package row

import (
	"slices"

	"mailsack/api"
	"mailsack/box"
	"mailsack/flag"
)

// How a message's flags change.
const (
	just = 0 // it has these alone
	more = 1 // it has these, too
	less = 2 // it has its own without these
)

// mayWords tells whether each of words is a keyword, and there once.
func mayWords(words []string) bool {
	// Split takes a flag's name as well, but tells it among the bits: a word is missing then.
	_, once, ok := flag.Split(words)
	return ok && len(once) == len(words)
}

// without tells the words that are not among others, in order.
func without(words, others []string) []string {
	var l []string
	for _, word := range words {
		if !slices.Contains(others, word) {
			l = append(l, word)
		}
	}
	return l
}

// places tells at which places of all there is one of words, rising.
func places(all, words []string) []int {
	var keys []int
	for i, word := range all {
		if slices.Contains(words, word) {
			keys = append(keys, i)
		}
	}
	return keys
}

// wordRows tells a row for each of words, with room for one row more.
func wordRows(words []string) []api.Row {
	l := make([]api.Row, 0, len(words)+1)
	for _, word := range words {
		l = append(l, api.Row{Kind: api.RWord, Text: word})
	}
	return l
}

// Add tells the rows that add a message to b.
func Add(b api.Box, date int, id string, flags int, words []string, text string) ([]api.Row, api.Errno) {
	if box.May(b) != api.OK || !mayWords(words) {
		return nil, api.ErrArg
	}
	fresh := without(words, b.Words)
	switch {
	case len(b.Msgs) >= api.MaxMsgs, len(b.Words)+len(fresh) > api.MaxWords:
		return nil, api.ErrFull
	case b.High == api.MaxUID, b.Next == api.MaxUID:
		return nil, api.ErrOver
	}
	if id == "" {
		id = box.Own(b.ID, b.Next)
	}
	b.Words = slices.Concat(b.Words, fresh)
	m := api.Msg{UID: b.Next, Mod: b.High + 1, Date: date, ID: id, Flags: flags, Keys: places(b.Words, words), Text: text}
	if e := box.MayMsg(b, m); e != api.OK {
		return nil, e
	}
	return append(wordRows(fresh), api.Row{Kind: api.RAdd, Msg: m}), api.OK
}

// shall tells the flags and words that b's message m shall have.
func shall(b api.Box, m api.Msg, flags int, words []string, how int) (int, []string) {
	own := box.Words(b, m)
	switch how {
	case more:
		return m.Flags | flags, slices.Concat(own, words)
	case less:
		return m.Flags &^ flags, without(own, words)
	}
	return flags, words
}

// Flags tells the rows that change the flags of b's message with that UID: none, if it has them so already.
func Flags(b api.Box, uid, flags int, words []string, how int) ([]api.Row, api.Errno) {
	if box.May(b) != api.OK || flags < 0 || flags > api.AllFlags || !mayWords(words) || how < just || how > less {
		return nil, api.ErrArg
	}
	at := box.Find(b, uid)
	if at < 0 {
		return nil, api.ErrNone
	}
	m := b.Msgs[at]
	flags, words = shall(b, m, flags, words, how)
	fresh := without(words, b.Words)
	// A message that shall have a new word has not just that already, so it does no harm to ask for room first.
	if len(b.Words)+len(fresh) > api.MaxWords {
		return nil, api.ErrFull
	}
	keys := places(slices.Concat(b.Words, fresh), words)
	if flags == m.Flags && slices.Equal(keys, m.Keys) {
		return nil, api.OK
	}
	if b.High == api.MaxUID {
		return nil, api.ErrOver
	}
	r := api.Row{Kind: api.RFlags, UID: uid, Mod: b.High + 1, Msg: api.Msg{Flags: flags, Keys: keys}}
	return append(wordRows(fresh), r), api.OK
}

// Cut tells the rows that take the messages with these UIDs out of b.
func Cut(b api.Box, uids []int) ([]api.Row, api.Errno) {
	if box.May(b) != api.OK {
		return nil, api.ErrArg
	}
	for i, uid := range uids {
		if box.Find(b, uid) < 0 || slices.Contains(uids[:i], uid) {
			return nil, api.ErrNone
		}
	}
	if b.High+len(uids) > api.MaxUID {
		return nil, api.ErrOver
	}
	var l []api.Row
	for i, uid := range uids {
		l = append(l, api.Row{Kind: api.RCut, UID: uid, Mod: b.High + 1 + i})
	}
	return l, api.OK
}
