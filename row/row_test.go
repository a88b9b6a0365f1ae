// Package row_test asks row by its face alone, promise by promise.
package row_test

import (
	"math"
	"reflect"
	"strconv"
	"strings"
	"testing"

	"mailsack/api"
	"mailsack/box"
	"mailsack/row"
)

// work is a box that may be, with three words and three messages.
func work() api.Box {
	return api.Box{ID: "b1", Valid: 5, Next: 30, High: 20, Words: []string{"w", "x", "y"}, Msgs: []api.Msg{
		{UID: 3, Mod: 20, Date: 7, ID: "m3", Flags: api.FSeen, Keys: []int{0, 2}, Text: "t"},
		{UID: 8, Mod: 1, ID: "e8-b1"},
		{UID: 29, Mod: 4, Date: 1000000, ID: "m29", Flags: 31, Keys: []int{1}, Text: "\x00"},
	}}
}

// words is n words, each another one.
func words(n int) []string {
	var l []string
	for i := range n {
		l = append(l, "w"+strconv.Itoa(i))
	}
	return l
}

// filled is a box that may be, with so many words and messages.
func filled(ofWords, ofMsgs int) api.Box {
	b := api.Box{ID: "b1", Valid: 5, Next: ofMsgs + 1, High: 1, Words: words(ofWords)}
	for i := range ofMsgs {
		b.Msgs = append(b.Msgs, api.Msg{UID: i + 1, Mod: 1, ID: "m"})
	}
	return b
}

// far is numbers that are far from all that a box may have.
var far = []int{math.MinInt, math.MinInt + 1, -1 << 32, -1000001, -1000000, 1 << 31, 1 << 32, 1<<32 + 1, math.MaxInt - 1, math.MaxInt}

// number asks of a number that is set from..to, at both ends and beyond them: want is OK or ErrArg.
func number(t *testing.T, from, to int, ask func(n int, want api.Errno)) {
	t.Helper()
	for _, n := range append([]int{from - 2, from - 1, from, from + 1, to - 1, to, to + 1, to + 2, -from, -to}, far...) {
		want := api.ErrArg
		if from <= n && n <= to {
			want = api.OK
		}
		ask(n, want)
	}
}

// noBoxes is boxes that may not be, for each of May's reasons.
func noBoxes() []api.Box {
	var l []api.Box
	for _, change := range []func(b *api.Box){
		func(b *api.Box) { *b = api.Box{} },
		func(b *api.Box) { b.ID = "" },
		func(b *api.Box) { b.Valid = 0 },
		func(b *api.Box) { b.Next = 29 },
		func(b *api.Box) { b.High = 19 },
		func(b *api.Box) { b.High = 1000001 },
		func(b *api.Box) { b.Words = words(65) },
		func(b *api.Box) { *b = filled(0, 61) },
		func(b *api.Box) { b.Words[1] = "w" },
		func(b *api.Box) { b.Words = append(b.Words, "a b") },
		func(b *api.Box) { b.Msgs[1].UID = 3 },
		func(b *api.Box) { b.Msgs[1].Keys = []int{3} },
		func(b *api.Box) { b.Msgs[2].Text = strings.Repeat("t", 301) },
	} {
		b := work()
		change(&b)
		l = append(l, b)
	}
	return l
}

// applied fails the test where Apply tells another box or Errno; want is the change of b: nil, where there is an error.
func applied(t *testing.T, what any, b api.Box, r api.Row, e api.Errno, want func(b *api.Box)) {
	t.Helper()
	var be api.Box
	if e == api.OK {
		be = box.Copy(b)
		want(&be)
	}
	if got, ge := row.Apply(b, r); !box.Same(got, be) || ge != e {
		t.Errorf("%v: %v, %d, not %v, %d", what, got, ge, be, e)
	}
	if got, ge := row.All(b, []api.Row{r}); !box.Same(got, be) || ge != e {
		t.Errorf("%v: All tells %v, %d, not %v, %d", what, got, ge, be, e)
	}
}

// refused fails the test where Apply does not tell that Errno.
func refused(t *testing.T, what any, b api.Box, r api.Row, e api.Errno) {
	t.Helper()
	applied(t, what, b, r, e, nil)
}

// TestP7_1Box: a box that may not be is ErrArg, whatever the row, and whatever keeps it from being.
func TestP7_1Box(t *testing.T) {
	for i, b := range noBoxes() {
		for kind := range 9 {
			refused(t, []int{i, kind}, b, api.Row{Kind: kind}, api.ErrArg)
			refused(t, []int{i, kind}, b, api.Row{Kind: kind, UID: 77, Mod: 21, Text: "w", Msg: api.Msg{UID: 77, Mod: 21, ID: "q"}}, api.ErrArg)
		}
		if got, e := row.All(b, nil); e != api.ErrArg || !box.Same(got, api.Box{}) {
			t.Errorf("All of %d, no rows: %v, %d", i, got, e)
		}
	}
}

// TestP7_1Kinds: all other kinds are ErrArg.
func TestP7_1Kinds(t *testing.T) {
	for _, kind := range append([]int{0, 8, 9, -1, -7, 1 << 8, 1<<8 + 1, 1<<32 + 7}, far...) {
		refused(t, kind, work(), api.Row{Kind: kind}, api.ErrArg)
		refused(t, kind, work(), api.Row{Kind: kind, UID: 3, Mod: 21, Text: "z", Msg: api.Msg{UID: 30, Mod: 21, ID: "q"}}, api.ErrArg)
	}
}

// TestP7_1Add: a message more, with Next behind its UID, and High not below its Mod.
func TestP7_1Add(t *testing.T) {
	add := func(change func(m *api.Msg)) api.Row {
		m := api.Msg{UID: 30, Mod: 21, Date: 9, ID: "q", Flags: 5, Keys: []int{1, 2}, Text: "new"}
		change(&m)
		return api.Row{Kind: api.RAdd, Msg: m}
	}
	for _, x := range []struct{ uid, mod, next, high int }{
		{30, 21, 31, 21}, {30, 20, 31, 20}, {30, 19, 31, 20}, {30, 1, 31, 20}, {31, 22, 32, 22}, {500, 999, 501, 999}, {999999, 1000000, 1000000, 1000000},
	} {
		r := add(func(m *api.Msg) { m.UID, m.Mod = x.uid, x.mod })
		applied(t, x, work(), r, api.OK, func(b *api.Box) { b.Msgs, b.Next, b.High = append(b.Msgs, r.Msg), x.next, x.high })
	}
	for i, change := range []func(m *api.Msg){
		func(m *api.Msg) { m.UID = 29 },
		func(m *api.Msg) { m.UID = 1 },
		func(m *api.Msg) { m.UID = 0 },
		func(m *api.Msg) { m.UID = -30 },
		func(m *api.Msg) { m.UID = 1000000 },
		func(m *api.Msg) { m.Mod = 0 },
		func(m *api.Msg) { m.Mod = 1000001 },
		func(m *api.Msg) { m.Date = -1 },
		func(m *api.Msg) { m.Date = 1000001 },
		func(m *api.Msg) { m.ID = "" },
		func(m *api.Msg) { m.ID = "a b" },
		func(m *api.Msg) { m.ID = strings.Repeat("q", 25) },
		func(m *api.Msg) { m.Flags = 32 },
		func(m *api.Msg) { m.Flags = -1 },
		func(m *api.Msg) { m.Keys = []int{3} },
		func(m *api.Msg) { m.Keys = []int{-1} },
		func(m *api.Msg) { m.Keys = []int{1, 1} },
		func(m *api.Msg) { m.Keys = []int{2, 1} },
		func(m *api.Msg) { m.Text = strings.Repeat("t", 301) },
	} {
		refused(t, i, work(), add(change), api.ErrArg)
	}
	empty := box.Empty("b1", 5)
	r := add(func(m *api.Msg) { m.UID, m.Mod, m.Keys = 1, 2, nil })
	applied(t, "the first message", empty, r, api.OK, func(b *api.Box) { b.Msgs, b.Next, b.High = []api.Msg{r.Msg}, 2, 2 })
	refused(t, "a key of no words", empty, add(func(m *api.Msg) { m.Keys = []int{0} }), api.ErrArg)
	last := work()
	last.Next = 1000000
	refused(t, "no UID is left", last, add(func(m *api.Msg) { m.UID = 999999 }), api.ErrArg)
}

// TestP7_1AddFull: 60 messages are all; that there is no room is told ahead of what is wrong with the message.
func TestP7_1AddFull(t *testing.T) {
	m := api.Msg{UID: 90, Mod: 3, ID: "q"}
	applied(t, 59, filled(0, 59), api.Row{Kind: api.RAdd, Msg: m}, api.OK, func(b *api.Box) { b.Msgs, b.Next, b.High = append(b.Msgs, m), 91, 3 })
	refused(t, 60, filled(0, 60), api.Row{Kind: api.RAdd, Msg: m}, api.ErrFull)
	refused(t, "60, no message", filled(0, 60), api.Row{Kind: api.RAdd}, api.ErrFull)
	refused(t, "60, a UID that was", filled(0, 60), api.Row{Kind: api.RAdd, Msg: api.Msg{UID: 1, Mod: 1, ID: "q"}}, api.ErrFull)
}

// mods asks r with all that a row's Mod may be, and with some that it may not be; set tells what a Mod makes of a box, beside its High.
func mods(t *testing.T, r api.Row, set func(b *api.Box, mod int)) {
	t.Helper()
	number(t, 1, 1000000, func(n int, e api.Errno) {
		r := r
		r.Mod = n
		applied(t, r, work(), r, e, func(b *api.Box) { set(b, n); b.High = max(20, n) })
	})
	for _, n := range []int{1, 2, 19, 20, 21, 22, 999999} {
		r := r
		r.Mod = n
		applied(t, r, work(), r, api.OK, func(b *api.Box) { set(b, n); b.High = max(20, n) })
	}
}

// none asks of UIDs that no message has, in rows that are right in all else, and wrong.
func none(t *testing.T, kind int) {
	t.Helper()
	for _, uid := range append([]int{0, 1, 2, 4, 28, 30, -3, 1000000}, far...) {
		refused(t, uid, work(), api.Row{Kind: kind, UID: uid, Mod: 21, Text: "q"}, api.ErrNone)
		refused(t, uid, work(), api.Row{Kind: kind, UID: uid, Mod: -1, Text: "a b", Msg: api.Msg{Flags: 32, Keys: []int{9}}}, api.ErrNone)
		refused(t, uid, box.Empty("b1", 5), api.Row{Kind: kind, UID: uid, Mod: 21, Text: "q"}, api.ErrNone)
	}
}

// TestP7_1Flags: other flags and keywords of a message, and when it was changed.
func TestP7_1Flags(t *testing.T) {
	for uid, at := range map[int]int{3: 0, 8: 1, 29: 2} {
		mods(t, api.Row{Kind: api.RFlags, UID: uid, Msg: api.Msg{Flags: 6, Keys: []int{1, 2}}}, func(b *api.Box, mod int) {
			m := &b.Msgs[at]
			m.Flags, m.Keys, m.Mod = 6, []int{1, 2}, mod
		})
	}
	number(t, 0, 31, func(n int, e api.Errno) {
		r := api.Row{Kind: api.RFlags, UID: 3, Mod: 21, Msg: api.Msg{Flags: n}}
		applied(t, n, work(), r, e, func(b *api.Box) { b.Msgs[0].Flags, b.Msgs[0].Keys, b.Msgs[0].Mod, b.High = n, nil, 21, 21 })
	})
	for _, keys := range [][]int{nil, {}, {0}, {2}, {0, 1, 2}} {
		r := api.Row{Kind: api.RFlags, UID: 8, Mod: 21, Msg: api.Msg{Keys: keys}}
		applied(t, keys, work(), r, api.OK, func(b *api.Box) { b.Msgs[1].Keys, b.Msgs[1].Mod, b.High = keys, 21, 21 })
	}
	for _, keys := range [][]int{{-1}, {3}, {0, 3}, {1, 1}, {1, 0}, {0, 2, 1}, {math.MaxInt}, {math.MinInt}, {0, math.MaxInt}, make([]int, 1000)} {
		refused(t, keys, work(), api.Row{Kind: api.RFlags, UID: 8, Mod: 21, Msg: api.Msg{Keys: keys}}, api.ErrArg)
	}
	none(t, api.RFlags)
}

// TestP7_1Cut: a message is gone, Next stays, and High tells when.
func TestP7_1Cut(t *testing.T) {
	for uid, at := range map[int]int{3: 0, 8: 1, 29: 2} {
		mods(t, api.Row{Kind: api.RCut, UID: uid}, func(b *api.Box, _ int) { b.Msgs = append(b.Msgs[:at], b.Msgs[at+1:]...) })
	}
	none(t, api.RCut)
}

// TestP7_1Word: a word more, behind the others.
func TestP7_1Word(t *testing.T) {
	put := func(word string) func(b *api.Box) {
		return func(b *api.Box) { b.Words = append(b.Words, word) }
	}
	for _, word := range []string{"z", "a", "W", "ww", "Seen", "$x/.-_9", strings.Repeat("a", 24)} {
		applied(t, word, work(), api.Row{Kind: api.RWord, Text: word}, api.OK, put(word))
	}
	for _, word := range []string{"", " ", "a b", `\Seen`, `\x`, "(", "\u00e9", "w\x00", strings.Repeat("a", 25)} {
		refused(t, word, work(), api.Row{Kind: api.RWord, Text: word}, api.ErrArg)
		refused(t, word, filled(64, 0), api.Row{Kind: api.RWord, Text: word}, api.ErrArg)
	}
	for _, word := range work().Words {
		refused(t, word, work(), api.Row{Kind: api.RWord, Text: word}, api.ErrTwice)
	}
	applied(t, "the last word", filled(63, 0), api.Row{Kind: api.RWord, Text: "z"}, api.OK, put("z"))
	refused(t, "a word more", filled(64, 0), api.Row{Kind: api.RWord, Text: "z"}, api.ErrFull)
	refused(t, "the last word again", filled(64, 0), api.Row{Kind: api.RWord, Text: "w63"}, api.ErrTwice)
}

// TestP7_1Name: another ID of a message, whatever other messages are called; nothing tells that it was changed.
func TestP7_1Name(t *testing.T) {
	for uid, at := range map[int]int{3: 0, 8: 1, 29: 2} {
		for _, name := range []string{"q", "m3", "e8-b1", strings.Repeat("n", 24)} {
			applied(t, name, work(), api.Row{Kind: api.RName, UID: uid, Text: name}, api.OK, func(b *api.Box) { b.Msgs[at].ID = name })
		}
	}
	for _, name := range []string{"", " ", "a b", `\Seen`, "\x00", strings.Repeat("n", 25)} {
		refused(t, name, work(), api.Row{Kind: api.RName, UID: 3, Text: name}, api.ErrArg)
	}
	none(t, api.RName)
}

// TestP7_1Mod: another Mod of a message, greater or smaller.
func TestP7_1Mod(t *testing.T) {
	for uid, at := range map[int]int{3: 0, 8: 1, 29: 2} {
		mods(t, api.Row{Kind: api.RMod, UID: uid}, func(b *api.Box, mod int) { b.Msgs[at].Mod = mod })
	}
	none(t, api.RMod)
}

// TestP7_1High: High rises, and never falls.
func TestP7_1High(t *testing.T) {
	mods(t, api.Row{Kind: api.RHigh}, func(*api.Box, int) {})
}

// TestP7_1NotLookedAt: fields that a kind does not name say nothing, whatever they are.
func TestP7_1NotLookedAt(t *testing.T) {
	odd := api.Msg{UID: -1, Mod: -1, Date: -1, ID: "a b", Flags: -1, Keys: []int{9, 9}, Text: strings.Repeat("t", 301)}
	for i, x := range []struct{ plain, odd api.Row }{
		{api.Row{Kind: api.RAdd, Msg: api.Msg{UID: 30, Mod: 9, ID: "q"}}, api.Row{Kind: api.RAdd, Msg: api.Msg{UID: 30, Mod: 9, ID: "q"}, UID: -1, Mod: -1, Text: "a b"}},
		{api.Row{Kind: api.RFlags, UID: 3, Mod: 9, Msg: api.Msg{Flags: 2, Keys: []int{1}}}, api.Row{Kind: api.RFlags, UID: 3, Mod: 9, Text: "a b", Msg: api.Msg{UID: -1, Mod: -1, Date: -1, ID: "a b", Flags: 2, Keys: []int{1}, Text: odd.Text}}},
		{api.Row{Kind: api.RCut, UID: 3, Mod: 9}, api.Row{Kind: api.RCut, UID: 3, Mod: 9, Text: "a b", Msg: odd}},
		{api.Row{Kind: api.RWord, Text: "z"}, api.Row{Kind: api.RWord, Text: "z", UID: -1, Mod: -1, Msg: odd}},
		{api.Row{Kind: api.RName, UID: 3, Text: "n"}, api.Row{Kind: api.RName, UID: 3, Text: "n", Mod: -1, Msg: odd}},
		{api.Row{Kind: api.RName, UID: 3, Text: "n"}, api.Row{Kind: api.RName, UID: 3, Text: "n", Mod: 1000}},
		{api.Row{Kind: api.RMod, UID: 3, Mod: 9}, api.Row{Kind: api.RMod, UID: 3, Mod: 9, Text: "a b", Msg: odd}},
		{api.Row{Kind: api.RHigh, Mod: 99}, api.Row{Kind: api.RHigh, Mod: 99, UID: -1, Text: "a b", Msg: odd}},
	} {
		a, e := row.Apply(work(), x.plain)
		b, f := row.Apply(work(), x.odd)
		if e != api.OK || f != api.OK || !box.Same(a, b) {
			t.Errorf("%d: %v, %d; %v, %d", i, a, e, b, f)
		}
	}
}

// TestP7_1All: rows one after the other, each of the box that those ahead of it made; the first error ends them.
func TestP7_1All(t *testing.T) {
	if got, e := row.All(work(), nil); e != api.OK || !box.Same(got, work()) {
		t.Errorf("no rows: %v, %d", got, e)
	}
	l := []api.Row{
		{Kind: api.RWord, Text: "z"},
		{Kind: api.RAdd, Msg: api.Msg{UID: 40, Mod: 5, ID: "q", Keys: []int{3}}},
		{Kind: api.RFlags, UID: 40, Mod: 25, Msg: api.Msg{Flags: 1, Keys: []int{0, 3}}},
		{Kind: api.RCut, UID: 8, Mod: 24},
		{Kind: api.RName, UID: 40, Text: "n"},
		{Kind: api.RMod, UID: 40, Mod: 2},
		{Kind: api.RHigh, Mod: 26},
		{Kind: api.RCut, UID: 29, Mod: 1},
	}
	want := work()
	want.Words = append(want.Words, "z")
	want.Msgs = append(want.Msgs[:1], api.Msg{UID: 40, Mod: 2, ID: "n", Flags: 1, Keys: []int{0, 3}})
	want.Next, want.High = 41, 26
	if got, e := row.All(work(), l); e != api.OK || !box.Same(got, want) {
		t.Errorf("%v, %d, not %v", got, e, want)
	}
	one := work()
	for i, r := range l {
		var e api.Errno
		if one, e = row.Apply(one, r); e != api.OK {
			t.Fatalf("row %d: %d", i, e)
		}
	}
	if !box.Same(one, want) {
		t.Errorf("one by one: %v, not %v", one, want)
	}
	for i, x := range []struct {
		l []api.Row
		e api.Errno
	}{
		{[]api.Row{{Kind: api.RCut, UID: 8, Mod: 1}, {Kind: api.RCut, UID: 8, Mod: 1}, {}}, api.ErrNone},
		{[]api.Row{{}, {Kind: api.RCut, UID: 9, Mod: 1}}, api.ErrArg},
		{[]api.Row{{Kind: api.RWord, Text: "z"}, {Kind: api.RWord, Text: "z"}, {}}, api.ErrTwice},
		{[]api.Row{{Kind: api.RAdd, Msg: api.Msg{UID: 30, Mod: 1, ID: "q"}}, {Kind: api.RAdd, Msg: api.Msg{UID: 30, Mod: 1, ID: "q"}}}, api.ErrArg},
		{append(l[:8:8], api.Row{Kind: api.RMod, UID: 29, Mod: 1}), api.ErrNone},
	} {
		if got, e := row.All(work(), x.l); e != x.e || !box.Same(got, api.Box{}) {
			t.Errorf("%d: %v, %d, not %d", i, got, e, x.e)
		}
	}
	many := make([]api.Row, 10000)
	for i := range many {
		many[i] = api.Row{Kind: api.RMod, UID: 3, Mod: i + 1}
	}
	if got, e := row.All(work(), many); e != api.OK || got.High != 10000 || got.Msgs[0].Mod != 10000 {
		t.Errorf("many rows: %v, %d", got, e)
	}
}

// long is work and a list of r, with more behind the length of each list; kept tells whether all of it is as it was.
func long(r api.Row) (b api.Box, rows []api.Row, kept func() bool) {
	b = work()
	b.Words = append(b.Words, "behind", "w")
	b.Msgs = append(b.Msgs, api.Msg{UID: 50, Mod: 50, ID: "behind"}, api.Msg{})
	for i := range b.Msgs {
		b.Msgs[i].Keys = append(b.Msgs[i].Keys, 6, 5)
	}
	r.Msg.Keys = append(append([]int(nil), r.Msg.Keys...), 6, 5)
	whole, wholeRows := b, []api.Row{r, {Kind: api.RWord, Text: "behind"}}
	wholeRows[0].Msg.Keys = r.Msg.Keys[:len(r.Msg.Keys)-2]
	was := box.Copy(whole)
	keys := append([]int(nil), r.Msg.Keys...)

	b.Words, b.Msgs = b.Words[:3], b.Msgs[:3]
	for i := range b.Msgs {
		b.Msgs[i].Keys = b.Msgs[i].Keys[:len(b.Msgs[i].Keys)-2]
	}
	return b, wholeRows[:1], func() bool {
		now := whole
		now.Msgs = append([]api.Msg(nil), now.Msgs...)
		for i := range 3 {
			now.Msgs[i].Keys = now.Msgs[i].Keys[:len(now.Msgs[i].Keys)+2]
		}
		return box.Same(now, was) && reflect.DeepEqual(r.Msg.Keys, keys) && wholeRows[1].Text == "behind"
	}
}

// scribble writes to all memory of b, and behind the length of its lists.
func scribble(b api.Box) {
	for i, m := range b.Msgs {
		for j := range m.Keys {
			m.Keys[j] = 99
		}
		_ = append(m.Keys, 99, 99)
		b.Msgs[i] = api.Msg{UID: 99}
	}
	for i := range b.Words {
		b.Words[i] = "scribbled"
	}
	_, _ = append(b.Words, "scribbled", "scribbled"), append(b.Msgs, api.Msg{UID: 99}, api.Msg{UID: 99})
}

// TestP7_1Memory: what is handed in is neither changed nor kept; what lies behind a length is neither read nor written (R2).
func TestP7_1Memory(t *testing.T) {
	for _, r := range []api.Row{
		{Kind: api.RAdd, Msg: api.Msg{UID: 30, Mod: 21, ID: "q", Keys: []int{0, 1}}},
		{Kind: api.RFlags, UID: 3, Mod: 21, Msg: api.Msg{Keys: []int{1, 2}}},
		{Kind: api.RCut, UID: 3, Mod: 21},
		{Kind: api.RWord, Text: "z"},
		{Kind: api.RName, UID: 3, Text: "z"},
		{Kind: api.RMod, UID: 3, Mod: 21},
		{Kind: api.RHigh, Mod: 21},
	} {
		want, _ := row.Apply(work(), r)
		b, rows, kept := long(r)
		got, e := row.All(b, rows)
		again, f := row.Apply(b, rows[0])
		if e != api.OK || f != api.OK || !box.Same(got, want) || !box.Same(again, want) || !kept() {
			t.Errorf("%v: %v, %d; %v, %d", r, got, e, again, f)
		}
		scribble(got)
		if !kept() || !box.Same(again, want) || !box.Same(b, work()) {
			t.Errorf("%v: the answer shares memory", r)
		}
	}
	b, _, kept := long(api.Row{})
	if got, e := row.All(b, nil); e != api.OK || !box.Same(got, work()) {
		t.Errorf("no rows: %v, %d", got, e)
	} else if scribble(got); !kept() {
		t.Error("no rows: the answer shares memory")
	}
}

// TestP7_1TwoMessages: two messages made of one list of keys share no memory.
func TestP7_1TwoMessages(t *testing.T) {
	keys := []int{0, 1}
	l := []api.Row{
		{Kind: api.RAdd, Msg: api.Msg{UID: 30, Mod: 21, ID: "q", Keys: keys}},
		{Kind: api.RAdd, Msg: api.Msg{UID: 31, Mod: 21, ID: "q", Keys: keys}},
		{Kind: api.RFlags, UID: 3, Mod: 21, Msg: api.Msg{Keys: keys}},
		{Kind: api.RFlags, UID: 8, Mod: 21, Msg: api.Msg{Keys: keys}},
	}
	b, e := row.All(work(), l)
	if e != api.OK {
		t.Fatal(e)
	}
	for _, at := range []int{0, 1, 3, 4} {
		if !reflect.DeepEqual(b.Msgs[at].Keys, []int{0, 1}) {
			t.Errorf("message %d: %v", at, b.Msgs[at].Keys)
		}
		b.Msgs[at].Keys[0] = 77
	}
	if keys[0] != 0 {
		t.Error("the rows' own keys have changed")
	}
}
