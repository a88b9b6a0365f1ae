// Package box_test asks box by its face alone, promise by promise.
package box_test

import (
	"math"
	"math/rand"
	"reflect"
	"slices"
	"strconv"
	"strings"
	"testing"

	"mailsack/api"
	"mailsack/box"
)

// msg is a message that may be, in boxes of one word or more.
func msg(uid, mod int) api.Msg {
	return api.Msg{UID: uid, Mod: mod, Date: 7, ID: "m" + strconv.Itoa(uid), Flags: api.FSeen, Keys: []int{0}, Text: "t"}
}

// work is a box that may be, with three words and three messages.
func work() api.Box {
	b := api.Box{ID: "b1", Valid: 5, Next: 30, High: 20, Words: []string{"w", "x", "y"}, Msgs: []api.Msg{msg(3, 20), msg(8, 1), msg(29, 4)}}
	b.Msgs[0].Keys = []int{0, 2}
	b.Msgs[1].Flags = 0
	b.Msgs[2].Keys = nil
	return b
}

// words is n words, each another one.
func words(n int) []string {
	var l []string
	for i := range n {
		l = append(l, "w"+strconv.Itoa(i))
	}
	return l
}

// far is numbers that are far from all that a box may have.
var far = []int{math.MinInt, math.MinInt + 1, -1 << 32, -1000001, -1000000, 1 << 31, 1 << 32, 1<<32 + 1, math.MaxInt - 1, math.MaxInt}

// mayMsg fails the test where MayMsg tells another Errno, of a box that is nothing but its words.
func mayMsg(t *testing.T, what any, words []string, m api.Msg, want api.Errno) {
	t.Helper()
	if got := box.MayMsg(api.Box{Words: words}, m); got != want {
		t.Errorf("MayMsg of %v: %d, not %d", what, got, want)
	}
}

// may fails the test where May tells another Errno.
func may(t *testing.T, what any, b api.Box, want api.Errno) {
	t.Helper()
	if got := box.May(b); got != want {
		t.Errorf("May of %v: %d, not %d", what, got, want)
	}
}

// number asks of a number that is set from..to, at both ends and beyond them.
func number(t *testing.T, name string, from, to int, ask func(what string, n int, want api.Errno)) {
	t.Helper()
	for _, n := range append([]int{from - 2, from - 1, from, from + 1, to - 1, to, to + 1, to + 2, -from, -to}, far...) {
		want := api.ErrArg
		if from <= n && n <= to {
			want = api.OK
		}
		ask(name+" "+strconv.Itoa(n), n, want)
	}
}

// TestP6_1MayMsgNumbers: UID, Mod, Date and Flags, at their ends and beyond.
func TestP6_1MayMsgNumbers(t *testing.T) {
	ask := func(set func(m *api.Msg, n int)) func(string, int, api.Errno) {
		return func(what string, n int, want api.Errno) {
			t.Helper()
			m := msg(3, 4)
			set(&m, n)
			mayMsg(t, what, []string{"w"}, m, want)
		}
	}
	number(t, "UID", 1, 999999, ask(func(m *api.Msg, n int) { m.UID = n }))
	number(t, "Mod", 1, 1000000, ask(func(m *api.Msg, n int) { m.Mod = n }))
	number(t, "Date", 0, 1000000, ask(func(m *api.Msg, n int) { m.Date = n }))
	number(t, "Flags", 0, 31, ask(func(m *api.Msg, n int) { m.Flags = n }))
	for flags := range 32 {
		m := msg(3, 4)
		m.Flags = flags
		mayMsg(t, flags, []string{"w"}, m, api.OK)
	}
}

// TestP6_1MayMsgNames: a message's ID is an atom of up to 24 bytes, and its Text of up to 300, whatever they are.
func TestP6_1MayMsgNames(t *testing.T) {
	for _, id := range []string{"x", "e7-b1", "A.b_c-d$/0", strings.Repeat("n", 12), strings.Repeat("n", 13), strings.Repeat("n", 24)} {
		m := msg(1, 1)
		m.ID = id
		mayMsg(t, id, words(1), m, api.OK)
	}
	for _, id := range []string{"", " ", "a b", `\Seen`, "a\x00", "\u00e9", "(a)", strings.Repeat("n", 25), strings.Repeat("n", 280)} {
		m := msg(1, 1)
		m.ID = id
		mayMsg(t, id, words(1), m, api.ErrArg)
	}
	for _, n := range []int{0, 1, 299, 300, 301, 302, 600, 65836} {
		want := api.OK
		if n > 300 {
			want = api.ErrArg
		}
		for _, s := range []string{"t", "\x00", "\xff", "\n", " "} {
			m := msg(1, 1)
			m.Text = strings.Repeat(s, n)
			mayMsg(t, n, words(1), m, want)
		}
	}
	m := msg(1, 1)
	m.Text = strings.Repeat("\u00e9", 151) // 151 letters, but 302 bytes
	mayMsg(t, "bytes", words(1), m, api.ErrArg)
}

// TestP6_1MayMsgKeys: keys rise, each one a place of the words.
func TestP6_1MayMsgKeys(t *testing.T) {
	for _, x := range []struct {
		words int
		keys  []int
		want  api.Errno
	}{
		{0, nil, api.OK}, {0, []int{}, api.OK}, {0, []int{0}, api.ErrArg}, {0, []int{-1}, api.ErrArg},
		{1, []int{0}, api.OK}, {1, []int{1}, api.ErrArg}, {1, []int{0, 0}, api.ErrArg},
		{3, nil, api.OK}, {3, []int{0, 1, 2}, api.OK}, {3, []int{0, 2}, api.OK}, {3, []int{2}, api.OK},
		{3, []int{3}, api.ErrArg}, {3, []int{0, 1, 2, 3}, api.ErrArg}, {3, []int{0, 1, 1}, api.ErrArg}, {3, []int{1, 0}, api.ErrArg},
		{3, []int{2, 0}, api.ErrArg}, {3, []int{0, 2, 1}, api.ErrArg}, {3, []int{-1, 0}, api.ErrArg}, {3, []int{0, -1}, api.ErrArg},
		{3, []int{math.MaxInt}, api.ErrArg}, {3, []int{math.MinInt}, api.ErrArg}, {3, []int{0, math.MaxInt}, api.ErrArg}, {3, []int{1 << 32}, api.ErrArg},
		{64, []int{0, 63}, api.OK}, {64, []int{64}, api.ErrArg}, {100, []int{64, 99}, api.OK}, {100, []int{99, 100}, api.ErrArg},
	} {
		m := msg(1, 1)
		m.Keys = x.keys
		mayMsg(t, x, words(x.words), m, x.want)
	}
}

// TestP6_1MayMsgByWordsAlone: nothing of the box but how many words it has is looked at.
func TestP6_1MayMsgByWordsAlone(t *testing.T) {
	odd := api.Box{ID: "no atom", Valid: -1, Next: 1, High: -5, Words: []string{"", "", `\Seen`}, Msgs: make([]api.Msg, 61)}
	m := msg(900000, 1000000)
	m.Keys = []int{0, 2}
	if got := box.MayMsg(odd, m); got != api.OK {
		t.Errorf("of an odd box: %d", got)
	}
	m.Keys = []int{3}
	if got := box.MayMsg(odd, m); got != api.ErrArg {
		t.Errorf("of an odd box, beyond its words: %d", got)
	}
	if got := box.MayMsg(api.Box{}, api.Msg{}); got != api.ErrArg {
		t.Errorf("of nothing: %d", got)
	}
}

// TestP6_1May: boxes that may be.
func TestP6_1May(t *testing.T) {
	may(t, "three messages", work(), api.OK)
	may(t, "an empty box", box.Empty("b1", 5), api.OK)
	full := api.Box{ID: strings.Repeat("b", 12), Valid: 1000000, Next: 1000000, High: 1000000, Words: words(64)}
	for i := range 60 {
		full.Msgs = append(full.Msgs, api.Msg{UID: 999940 + i, Mod: 1000000, Date: 1000000, ID: strings.Repeat("i", 24), Flags: 31, Text: strings.Repeat("t", 300)})
		for key := range 64 {
			full.Msgs[i].Keys = append(full.Msgs[i].Keys, key)
		}
	}
	may(t, "a full box", full, api.OK)
}

// TestP6_1MayNumbers: Valid, High and Next, at their ends and beyond.
func TestP6_1MayNumbers(t *testing.T) {
	ask := func(set func(b *api.Box, n int)) func(string, int, api.Errno) {
		return func(what string, n int, want api.Errno) {
			t.Helper()
			b := box.Empty("b1", 5)
			set(&b, n)
			may(t, what, b, want)
		}
	}
	number(t, "Valid", 1, 1000000, ask(func(b *api.Box, n int) { b.Valid = n }))
	number(t, "High", 1, 1000000, ask(func(b *api.Box, n int) { b.High = n }))
	number(t, "Next", 1, 1000000, ask(func(b *api.Box, n int) { b.Next = n }))
}

// TestP6_1MayNames: a box's ID is an atom of up to 12 bytes.
func TestP6_1MayNames(t *testing.T) {
	for n := range 30 {
		want := api.ErrArg
		if 1 <= n && n <= 12 {
			want = api.OK
		}
		may(t, n, box.Empty(strings.Repeat("b", n), 5), want)
	}
	for _, id := range []string{"a.b", "_", "-", "$", "/", "Z9"} {
		may(t, id, box.Empty(id, 5), api.OK)
	}
	for _, id := range []string{" ", "a b", `\Seen`, "\x00", "a*", "\u00e9", "b\n"} {
		may(t, id, box.Empty(id, 5), api.ErrArg)
	}
}

// TestP6_1MayWords: up to 64 words, each a keyword, each once; great and small letters are two.
func TestP6_1MayWords(t *testing.T) {
	for n, want := range map[int]api.Errno{0: api.OK, 1: api.OK, 32: api.OK, 33: api.OK, 63: api.OK, 64: api.OK, 65: api.ErrFull, 66: api.ErrFull, 1000: api.ErrFull} {
		b := box.Empty("b1", 5)
		b.Words = words(n)
		may(t, n, b, want)
	}
	for _, l := range [][]string{{""}, {`\Seen`}, {"a b"}, {"a", "b", "("}, {strings.Repeat("a", 25)}, {"a", "a"}, {"a", "b", "a"}, {"a", "b", "b"}, {"a", "b", "c", "b"}} {
		b := box.Empty("b1", 5)
		b.Words = l
		may(t, l, b, api.ErrArg)
	}
	for _, l := range [][]string{{strings.Repeat("a", 24)}, {"a", "A"}, {"a", "aa"}, {"Seen"}, {"z", "a"}} {
		b := box.Empty("b1", 5)
		b.Words = l
		may(t, l, b, api.OK)
	}
	b := box.Empty("b1", 5)
	b.Words = words(64)
	b.Words[63] = b.Words[0]
	may(t, "the last word again", b, api.ErrArg)
}

// rising is a box with n messages that may be, but for their number.
func rising(n int) api.Box {
	b := api.Box{ID: "b1", Valid: 5, Next: n + 1, High: 1, Words: []string{"w"}}
	for i := range n {
		b.Msgs = append(b.Msgs, msg(i+1, 1))
	}
	return b
}

// TestP6_1MayMsgs: up to 60 messages; their UIDs rise, below Next; no Mod is above High; each may be.
func TestP6_1MayMsgs(t *testing.T) {
	for n, want := range map[int]api.Errno{0: api.OK, 1: api.OK, 59: api.OK, 60: api.OK, 61: api.ErrFull, 62: api.ErrFull, 500: api.ErrFull} {
		may(t, n, rising(n), want)
	}
	for i, change := range []func(b *api.Box){
		func(b *api.Box) { b.Msgs[1].UID = 3 },
		func(b *api.Box) { b.Msgs[1].UID = 2 },
		func(b *api.Box) { b.Msgs[1].UID = 29 },
		func(b *api.Box) { b.Msgs[2].UID = 8 },
		func(b *api.Box) { b.Msgs[2].UID = 7 },
		func(b *api.Box) { b.Msgs[2].UID = 30 },
		func(b *api.Box) { b.Msgs[2].UID = 31 },
		func(b *api.Box) { b.Next = 29 },
		func(b *api.Box) { b.Next = 1 },
		func(b *api.Box) { b.High = 19 },
		func(b *api.Box) { b.High = 1 },
		func(b *api.Box) { b.Msgs[2].Mod = 21 },
		func(b *api.Box) { b.Msgs[1].Mod = 1000000 },
		func(b *api.Box) { b.Msgs[0], b.Msgs[1] = b.Msgs[1], b.Msgs[0] },
		func(b *api.Box) { b.Words = b.Words[:2] },
		func(b *api.Box) { b.Msgs[2].Flags = 32 },
		func(b *api.Box) { b.Msgs[0].UID = 0 },
		func(b *api.Box) { b.Msgs[0].UID = math.MinInt },
		func(b *api.Box) { b.Msgs[1] = api.Msg{} },
	} {
		b := work()
		change(&b)
		may(t, i, b, api.ErrArg)
	}
	b := work()
	b.Msgs[1].ID, b.Msgs[2].Mod = b.Msgs[0].ID, b.Msgs[0].Mod
	may(t, "two messages with one ID and one Mod", b, api.OK)
	b.Next = 1000000
	may(t, "a Next far above", b, api.OK)
	b.Msgs[2].UID = 999999
	may(t, "the last UID", b, api.OK)
	b.Msgs[2].UID = 1000000
	may(t, "a UID more", b, api.ErrArg)
}

// TestP6_1MayOrder: what is wrong with the box's own numbers is told ahead of too many words or messages, and that ahead of what is wrong with these.
func TestP6_1MayOrder(t *testing.T) {
	own := []func(b *api.Box){
		func(b *api.Box) { b.ID = "" },
		func(b *api.Box) { b.ID = strings.Repeat("b", 13) },
		func(b *api.Box) { b.Valid = 0 },
		func(b *api.Box) { b.High = 0 },
		func(b *api.Box) { b.Next = 1000001 },
	}
	full := []func(b *api.Box){
		func(b *api.Box) { b.Words = words(65) },
		func(b *api.Box) { b.Msgs = rising(61).Msgs },
		func(b *api.Box) { b.Msgs = make([]api.Msg, 61) },
		func(b *api.Box) { b.Words = make([]string, 65) },
	}
	parts := []func(b *api.Box){
		func(b *api.Box) { b.Words[0] = "" },
		func(b *api.Box) { b.Words[1] = b.Words[0] },
		func(b *api.Box) { b.Msgs[0] = api.Msg{} },
		func(b *api.Box) { b.High = 1; b.Msgs[0].Mod = 2 },
	}
	for i, tooMany := range full {
		b := work()
		tooMany(&b)
		may(t, i, b, api.ErrFull)
		for j, wrong := range own {
			b := work()
			tooMany(&b)
			wrong(&b)
			may(t, []int{i, j}, b, api.ErrArg)
		}
		for j, wrong := range parts {
			b := work()
			tooMany(&b)
			wrong(&b)
			may(t, []int{i, j}, b, api.ErrFull)
		}
	}
}

// changed is boxes, each with one thing other than work's; the last two are work itself and a box of nothing.
func changed() []api.Box {
	var l []api.Box
	for _, change := range []func(b *api.Box){
		func(b *api.Box) { b.ID = "b2" },
		func(b *api.Box) { b.ID = "" },
		func(b *api.Box) { b.Valid++ },
		func(b *api.Box) { b.Next++ },
		func(b *api.Box) { b.High++ },
		func(b *api.Box) { b.Words = nil },
		func(b *api.Box) { b.Words = b.Words[:2] },
		func(b *api.Box) { b.Words[0], b.Words[1] = b.Words[1], b.Words[0] },
		func(b *api.Box) { b.Words[2] = "Y" },
		func(b *api.Box) { b.Words = append(b.Words, "z") },
		func(b *api.Box) { b.Msgs = nil },
		func(b *api.Box) { b.Msgs = b.Msgs[:2] },
		func(b *api.Box) { b.Msgs = b.Msgs[1:] },
		func(b *api.Box) { b.Msgs = append(b.Msgs, api.Msg{}) },
		func(b *api.Box) { b.Msgs[1], b.Msgs[0] = b.Msgs[0], b.Msgs[1] },
		func(b *api.Box) { b.Msgs[2].UID-- },
		func(b *api.Box) { b.Msgs[2].Mod-- },
		func(b *api.Box) { b.Msgs[2].Date-- },
		func(b *api.Box) { b.Msgs[2].ID += "x" },
		func(b *api.Box) { b.Msgs[2].Flags ^= api.FDraft },
		func(b *api.Box) { b.Msgs[2].Keys = []int{0} },
		func(b *api.Box) { b.Msgs[0].Keys = []int{2, 0} },
		func(b *api.Box) { b.Msgs[0].Keys = []int{0, 1} },
		func(b *api.Box) { b.Msgs[0].Keys = []int{0} },
		func(b *api.Box) { b.Msgs[0].Keys = nil },
		func(b *api.Box) { b.Msgs[2].Text = "T" },
		func(b *api.Box) { b.Msgs[2].Text = "" },
	} {
		b := work()
		change(&b)
		l = append(l, b)
	}
	return append(l, work(), api.Box{})
}

// TestP6_2Same: two boxes are the same if nothing of them differs, whether they may be or not.
func TestP6_2Same(t *testing.T) {
	l, again := changed(), changed()
	for i, a := range l {
		for j, b := range again {
			if got := box.Same(a, b); got != (i == j) {
				t.Errorf("Same of %d and %d: %v", i, j, got)
			}
		}
	}
}

// TestP6_2SameEmpty: nil and empty lists are one.
func TestP6_2SameEmpty(t *testing.T) {
	a, b := work(), work()
	a.Words, b.Words = nil, []string{}
	a.Msgs[2].Keys, b.Msgs[2].Keys = nil, []int{}
	if !box.Same(a, b) || !box.Same(b, a) {
		t.Error("nil and empty words or keys")
	}
	a.Msgs, b.Msgs = []api.Msg{}, nil
	if !box.Same(a, b) || !box.Same(b, a) {
		t.Error("nil and empty messages")
	}
}

// TestP6_2Copy: a copy is the same, and shares no memory with the box, nor one list of it with another.
func TestP6_2Copy(t *testing.T) {
	for i, b := range changed() {
		if got := box.Copy(b); !box.Same(got, b) || !box.Same(got, changed()[i]) {
			t.Errorf("Copy of %d: %v", i, got)
		}
	}
	b := work()
	keys := make([]int, 4, 8)
	b.Msgs[0].Keys, b.Msgs[1].Keys, b.Msgs[2].Keys = keys[:2], keys[:2], keys[1:3] // one memory, thrice
	was := box.Copy(b)
	c := box.Copy(b)
	c.Words[0], c.Msgs[0].Text, c.Msgs[0].Keys[1] = "other", "other", 99
	_, _, _ = append(c.Words, "more"), append(c.Msgs, api.Msg{UID: 99}), append(c.Msgs[0].Keys, 98)
	if !box.Same(b, was) || !slices.Equal(keys[:8], make([]int, 8)) {
		t.Errorf("the box has changed: %v", b)
	}
	if !slices.Equal(c.Msgs[1].Keys, []int{0, 0}) || !slices.Equal(c.Msgs[2].Keys, []int{0, 0}) {
		t.Errorf("other keys have changed: %v", c)
	}
	b.Words[1], b.Msgs[1].Text, keys[1] = "another", "another", 97
	if c.Words[1] != "x" || c.Msgs[1].Text != "t" || c.Msgs[1].Keys[1] != 0 {
		t.Errorf("the copy has changed: %v", c)
	}
}

// TestP6_2Find: the place of a message by its UID, the first one, in whatever order they stand.
func TestP6_2Find(t *testing.T) {
	for uid, want := range map[int]int{3: 0, 8: 1, 29: 2, 0: -1, 1: -1, 4: -1, 28: -1, 30: -1, -3: -1, math.MaxInt: -1, math.MinInt: -1} {
		if got := box.Find(work(), uid); got != want {
			t.Errorf("Find %d: %d, not %d", uid, got, want)
		}
		if got := box.Find(api.Box{}, uid); got != -1 {
			t.Errorf("Find %d in nothing: %d", uid, got)
		}
	}
	odd := api.Box{Msgs: []api.Msg{{UID: 9}, {UID: 2}, {UID: -1}, {UID: 2}, {UID: 0}, {UID: 9}}}
	for uid, want := range map[int]int{9: 0, 2: 1, -1: 2, 0: 4, 3: -1} {
		if got := box.Find(odd, uid); got != want {
			t.Errorf("Find %d in an odd box: %d, not %d", uid, got, want)
		}
	}
}

// TestP6_2Words: the words of a message's keys, in the keys' order; places that are not there are left out.
func TestP6_2Words(t *testing.T) {
	for _, x := range []struct {
		keys []int
		want string
	}{
		{nil, ""}, {[]int{0}, "w"}, {[]int{2}, "y"}, {[]int{0, 2}, "w y"}, {[]int{0, 1, 2}, "w x y"},
		{[]int{2, 0}, "y w"}, {[]int{1, 1}, "x x"}, {[]int{3}, ""}, {[]int{-1}, ""}, {[]int{-1, 2, 3, 0}, "y w"},
		{[]int{math.MinInt, 1, math.MaxInt, 1 << 32}, "x"},
	} {
		if got := strings.Join(box.Words(work(), api.Msg{Keys: x.keys}), " "); got != x.want {
			t.Errorf("Words of %v: %q", x.keys, got)
		}
		if got := box.Words(api.Box{}, api.Msg{Keys: x.keys}); len(got) != 0 {
			t.Errorf("Words of %v of nothing: %q", x.keys, got)
		}
	}
	odd := api.Box{Words: []string{"", `\Seen`, ""}}
	if got := box.Words(odd, api.Msg{Keys: []int{0, 1, 2}}); !slices.Equal(got, odd.Words) {
		t.Errorf("Words as they are: %q", got)
	}
}

// TestP6_2Own: the name by a UID and a box's ID, whatever they are.
func TestP6_2Own(t *testing.T) {
	for _, x := range []struct {
		id   string
		uid  int
		want string
	}{
		{"b1", 7, "e7-b1"}, {"b1", 0, "e0-b1"}, {"b1", -1, "e0-b1"}, {"b1", math.MinInt, "e0-b1"}, {"", 1, "e1-"}, {"", -3, "e0-"},
		{"a-b", 999999, "e999999-a-b"}, {"x", 1000000, "e1000000-x"}, {"x", math.MaxInt, "e9223372036854775807-x"}, {"no atom\x00", 10, "e10-no atom\x00"},
	} {
		if got := box.Own(x.id, x.uid); got != x.want {
			t.Errorf("Own(%q, %d): %q", x.id, x.uid, got)
		}
	}
	longest := msg(1, 1)
	longest.ID = box.Own(strings.Repeat("b", 12), 999999)
	mayMsg(t, "the longest own name", words(1), longest, api.OK)
}

// TestP6_2Empty: a box with its ID and Valid as they are, Next 1, High 1, and nothing else.
func TestP6_2Empty(t *testing.T) {
	for _, id := range []string{"b1", "", "no atom"} {
		for _, valid := range []int{5, 0, -1, 1000001} {
			got := box.Empty(id, valid)
			if got.ID != id || got.Valid != valid || got.Next != 1 || got.High != 1 || len(got.Words) != 0 || len(got.Msgs) != 0 {
				t.Errorf("Empty(%q, %d): %v", id, valid, got)
			}
		}
	}
}

// TestP6_2Unseen: the messages without FSeen, whatever other flags they have.
func TestP6_2Unseen(t *testing.T) {
	if got := box.Unseen(work()); got != 1 {
		t.Errorf("Unseen: %d", got)
	}
	if got := box.Unseen(api.Box{}); got != 0 {
		t.Errorf("Unseen of nothing: %d", got)
	}
	var all api.Box
	for flags := range 32 {
		all.Msgs = append(all.Msgs, api.Msg{Flags: flags})
		want := 0
		if flags/8%2 == 0 {
			want = 1
		}
		if got := box.Unseen(api.Box{Msgs: []api.Msg{{Flags: flags}}}); got != want {
			t.Errorf("Unseen of flags %d: %d", flags, got)
		}
	}
	if got := box.Unseen(all); got != 16 {
		t.Errorf("Unseen of all flags: %d", got)
	}
}

// random is a box that may be, or nearly so.
func random(r *rand.Rand) api.Box {
	b := api.Box{ID: "b", Valid: 1, Next: r.Intn(9) + 1, High: r.Intn(5) + 1, Words: words(r.Intn(3))}
	uid := 0
	for range r.Intn(4) {
		uid += r.Intn(7) / 2 // none above that ahead of it, now and then
		m := msg(uid, r.Intn(6))
		m.Keys = [][]int{nil, {0}, {1}, {0, 1}}[r.Intn(4)]
		b.Msgs = append(b.Msgs, m)
	}
	return b
}

// whole tells whether b's messages are those of a box, each told by itself: each UID once, below Next, and so on.
func whole(b api.Box) bool {
	at := map[int]int{}
	for i, m := range b.Msgs {
		if _, again := at[m.UID]; again || m.UID >= b.Next || m.Mod > b.High || box.MayMsg(b, m) != api.OK {
			return false
		}
		at[m.UID] = i
	}
	return slices.IsSortedFunc(b.Msgs, func(a, b api.Msg) int { return a.UID - b.UID })
}

// TestP6_3Once: a box that may be has each UID once, all below Next, so that Find tells each message's own place; and no other may be.
func TestP6_3Once(t *testing.T) {
	r := rand.New(rand.NewSource(6))
	may := 0
	for range 20000 {
		b := random(r)
		if got := box.May(b); (got == api.OK) != whole(b) || got != api.OK && got != api.ErrArg {
			t.Fatalf("May of %v: %d", b, got)
		} else if got != api.OK {
			continue
		}
		may++
		for i, m := range b.Msgs {
			if box.Find(b, m.UID) != i || m.UID >= b.Next {
				t.Fatalf("a UID twice, or too great: %v", b)
			}
		}
		if box.Find(b, b.Next) != -1 {
			t.Fatalf("Next is there: %v", b)
		}
	}
	if may < 1000 || may > 19000 {
		t.Errorf("%d of them may be", may)
	}
}

// TestKeeps: what is handed in is neither changed nor kept, and what lies behind a list's length is neither read nor written (R2).
func TestKeeps(t *testing.T) {
	const more = 4
	long := work()
	long.Words = append(long.Words, words(more)...)
	for i := range long.Msgs {
		long.Msgs[i].Keys = append(long.Msgs[i].Keys, 6, 5, 4, 3)
	}
	long.Msgs = append(long.Msgs, make([]api.Msg, more)...)
	was := box.Copy(long)

	b := long
	b.Words = b.Words[:3]
	b.Msgs = b.Msgs[:3]
	for i := range b.Msgs {
		b.Msgs[i].Keys = b.Msgs[i].Keys[:len(b.Msgs[i].Keys)-more]
	}
	c, l := box.Copy(b), box.Words(b, b.Msgs[0])
	if box.May(b) != api.OK || box.MayMsg(b, b.Msgs[2]) != api.OK || !box.Same(b, work()) || box.Find(b, 0) != -1 || box.Unseen(b) != 1 {
		t.Error("what lies behind a length is read")
	}
	l[0], c.Words[1] = "other", "other"
	_, _, _ = append(l, "other"), append(c.Words, "other"), append(c.Msgs[2].Keys, 9)
	for i := range b.Msgs {
		keys := b.Msgs[i].Keys
		b.Msgs[i].Keys = keys[:len(keys)+more]
	}
	if !reflect.DeepEqual(long, was) {
		t.Errorf("what was handed in has changed: %v", long)
	}
	l = box.Words(work(), work().Msgs[0])
	if !slices.Equal(l, []string{"w", "y"}) {
		t.Errorf("a list that was changed is told again: %q", l)
	}
}
