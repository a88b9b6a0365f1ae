// Package samples: boxes that the tests of several packages ask about. The program itself has no use for it.
package samples

import (
	"strconv"
	"strings"

	"mailsack/api"
	"mailsack/box"
)

// Words is n words, each another one.
func Words(n int) []string {
	var l []string
	for i := range n {
		l = append(l, "w"+strconv.Itoa(i))
	}
	return l
}

// Plain is a box of which each form says all: 32 words, and two messages, of which one has the first and the last of them.
func Plain() api.Box {
	return api.Box{ID: "b1", Valid: 5, Next: 30, High: 1, Words: Words(api.OldWords), Msgs: []api.Msg{
		{UID: 2, Mod: 1, Date: 7, ID: "e2-b1", Flags: 9, Keys: []int{0, 31}, Text: "hi"},
		{UID: 29, Mod: 1, ID: "e29-b1"},
	}}
}

// Rich is a box of which the older forms lose one thing or another in each message but one.
func Rich() api.Box {
	return api.Box{ID: "b1", Valid: 5, Next: 30, High: 9, Words: Words(35), Msgs: []api.Msg{
		{UID: 2, Mod: 3, Date: 1000000, ID: "q", Flags: 9, Keys: []int{0, 31, 32, 34}, Text: "hi"},
		{UID: 8, Mod: 1, ID: "e8-b1", Flags: 31, Keys: []int{31}},
		{UID: 9, Mod: 1, ID: "e9-b1", Keys: []int{33}},
		{UID: 20, Mod: 4, ID: "n", Keys: []int{4}},
		{UID: 21, Mod: 9, ID: "e21-b1", Keys: []int{1, 34}},
		{UID: 22, Mod: 2, ID: "e22-b1"},
		{UID: 23, Mod: 1, ID: "m", Keys: []int{32}},
	}}
}

// Full is a box that has as much of everything as may be.
func Full() api.Box {
	b := api.Box{ID: strings.Repeat("b", api.MaxID), Valid: api.MaxUID, Next: api.MaxUID, High: api.MaxUID, Words: Words(api.MaxWords)}
	for i := range api.MaxMsgs {
		m := api.Msg{UID: api.MaxUID - api.MaxMsgs + i, Mod: api.MaxUID, Date: api.MaxUID, ID: strings.Repeat("i", api.MaxName), Flags: api.AllFlags, Text: strings.Repeat("t", api.MaxText)}
		for key := range api.MaxWords {
			m.Keys = append(m.Keys, key)
		}
		b.Msgs = append(b.Msgs, m)
	}
	return b
}

// Drawn is a box that may be, of which each form says much, but now and then not all; draw(n) draws a number from 0 on below n.
func Drawn(draw func(n int) int) api.Box {
	b := api.Box{ID: "b" + strconv.Itoa(draw(100)), Valid: 1 + draw(api.MaxUID), High: 1 + draw(4)*draw(2), Words: Words(28 + draw(37))}
	if draw(2) == 0 {
		b.Words = Words(draw(33))
	}
	uid := 0
	for range draw(7) {
		uid += 1 + draw(50)
		b.Msgs = append(b.Msgs, drawnMsg(draw, b, uid))
	}
	b.Next = uid + 1 + draw(1000)
	return b
}

// drawnMsg is a message that b may have; now and then its name is another one's own.
func drawnMsg(draw func(n int) int, b api.Box, uid int) api.Msg {
	m := api.Msg{UID: uid, Mod: 1 + draw(b.High), Date: draw(api.MaxUID + 1), ID: box.Own(b.ID, uid-draw(12)/11), Flags: draw(api.AllFlags + 1), Text: strings.Repeat("t", draw(api.MaxText+1))}
	if draw(5) == 0 {
		m.ID = "n" + strconv.Itoa(draw(1000))
	}
	often := 1 + draw(60)
	for key := range b.Words {
		if draw(often) == 0 {
			m.Keys = append(m.Keys, key)
		}
	}
	return m
}
