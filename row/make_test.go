package row_test

import (
	"math"
	"math/rand"
	"reflect"
	"slices"
	"strings"
	"testing"

	"mailsack/api"
	"mailsack/box"
	"mailsack/row"
)

// rowsAre fails the test where a call has told other rows or another Errno.
func rowsAre(t *testing.T, what any, got []api.Row, e api.Errno, want []api.Row, we api.Errno) {
	t.Helper()
	if len(got)+len(want) > 0 && !reflect.DeepEqual(plain(got), plain(want)) || e != we {
		t.Errorf("%v: %v, %d, not %v, %d", what, got, e, want, we)
	}
}

// plain is l with nil for all lists of nothing.
func plain(l []api.Row) []api.Row {
	l = slices.Clone(l)
	for i := range l {
		if len(l[i].Msg.Keys) == 0 {
			l[i].Msg.Keys = nil
		}
	}
	return l
}

// wordRows is a row for each word.
func wordRows(words ...string) []api.Row {
	var l []api.Row
	for _, word := range words {
		l = append(l, api.Row{Kind: api.RWord, Text: word})
	}
	return l
}

// added fails the test where Add to b, with all else right, tells other rows or another Errno.
func added(t *testing.T, b api.Box, words []string, e api.Errno, want ...api.Row) {
	t.Helper()
	got, ge := row.Add(b, 77, "q", 3, words, "t")
	rowsAre(t, words, got, ge, want, e)
}

// noWords is lists of words that are no keywords, or have one twice.
var noWords = [][]string{{""}, {"a b"}, {`\Seen`}, {`\seen`}, {`\x`}, {"("}, {"\u00e9"}, {strings.Repeat("a", 25)}, {"z", ""}, {"z", `\Draft`}, {"z", "z"}, {"w", "w"}, {"z", "a", "z"}, {"z", "a", "a"}, {"w", "z", "w"}}

// TestP7_2Add: a row for each new word, in order, and one for the message.
func TestP7_2Add(t *testing.T) {
	for _, x := range []struct {
		words, fresh []string
		keys         []int
	}{
		{nil, nil, nil}, {[]string{"w"}, nil, []int{0}}, {[]string{"y", "w"}, nil, []int{0, 2}}, {[]string{"y", "x", "w"}, nil, []int{0, 1, 2}},
		{[]string{"z"}, []string{"z"}, []int{3}}, {[]string{"z", "a"}, []string{"z", "a"}, []int{3, 4}}, {[]string{"z", "y", "a", "w"}, []string{"z", "a"}, []int{0, 2, 3, 4}},
		{[]string{"W", "Seen"}, []string{"W", "Seen"}, []int{3, 4}},
	} {
		m := api.Msg{UID: 30, Mod: 21, Date: 77, ID: "q", Flags: 3, Keys: x.keys, Text: "t"}
		added(t, work(), x.words, api.OK, append(wordRows(x.fresh...), api.Row{Kind: api.RAdd, Msg: m})...)
	}
	got, e := row.Add(box.Empty("b1", 5), 0, "", 0, nil, "")
	rowsAre(t, "the example", got, e, []api.Row{{Kind: api.RAdd, Msg: api.Msg{UID: 1, Mod: 2, ID: "e1-b1"}}}, api.OK)
}

// TestP7_2Own: a message that no ID is said of has its own, by its UID and its box; an ID that is said stays.
func TestP7_2Own(t *testing.T) {
	b := box.Empty(strings.Repeat("b", 12), 5)
	b.Next = 999999
	for id, want := range map[string]string{"": "e999999-bbbbbbbbbbbb", "q": "q", "e1-b1": "e1-b1"} {
		got, e := row.Add(b, 1, id, 0, nil, "")
		rowsAre(t, id, got, e, []api.Row{{Kind: api.RAdd, Msg: api.Msg{UID: 999999, Mod: 2, Date: 1, ID: want}}}, api.OK)
	}
}

// TestP7_2Message: what box.MayMsg says of date, ID, flags and text.
func TestP7_2Message(t *testing.T) {
	ask := func(date int, id string, flags int, text string, want api.Errno) {
		t.Helper()
		l, e := row.Add(work(), date, id, flags, []string{"z"}, text)
		if e != want || e == api.OK && (len(l) != 2 || l[1].Msg.Date != date || l[1].Msg.Flags != flags || l[1].Msg.Text != text) || e != api.OK && len(l) != 0 {
			t.Errorf("%d, %q, %d, %q: %v, %d", date, id, flags, text, l, e)
		}
	}
	number(t, 0, 1000000, func(n int, e api.Errno) { ask(n, "q", 1, "t", e) })
	number(t, 0, 31, func(n int, e api.Errno) { ask(0, "q", n, "t", e) })
	for _, id := range []string{" ", "a b", `\Seen`, "\x00", strings.Repeat("q", 25)} {
		ask(0, id, 1, "t", api.ErrArg)
	}
	ask(0, strings.Repeat("q", 24), 1, "t", api.OK)
	ask(0, "q", 1, strings.Repeat("\xff", 300), api.OK)
	ask(0, "q", 1, strings.Repeat("t", 301), api.ErrArg)
	ask(0, "q", 1, "", api.OK)
}

// TestP7_2Errors: what keeps a message from being added.
func TestP7_2Errors(t *testing.T) {
	for _, b := range noBoxes() {
		added(t, b, nil, api.ErrArg)
	}
	for _, l := range noWords {
		added(t, work(), l, api.ErrArg)
	}
	added(t, filled(0, 60), nil, api.ErrFull)
	last := api.Row{Kind: api.RAdd, Msg: api.Msg{UID: 60, Mod: 2, Date: 77, ID: "q", Flags: 3, Text: "t"}}
	added(t, filled(0, 59), nil, api.OK, last)
	added(t, filled(64, 0), []string{"z"}, api.ErrFull)
	added(t, filled(63, 0), []string{"z", "w5", "a"}, api.ErrFull)
	added(t, filled(0, 0), words(65), api.ErrFull)
	m := api.Msg{UID: 1, Mod: 2, Date: 77, ID: "q", Flags: 3, Text: "t"}
	m.Keys = []int{5, 63}
	added(t, filled(63, 0), []string{"z", "w5"}, api.OK, api.Row{Kind: api.RWord, Text: "z"}, api.Row{Kind: api.RAdd, Msg: m})
	m.Keys = []int{0, 63}
	added(t, filled(64, 0), []string{"w63", "w0"}, api.OK, api.Row{Kind: api.RAdd, Msg: m})

	b := work()
	b.High = 999999
	l, e := row.Add(b, 0, "q", 0, nil, "")
	rowsAre(t, "the last Mod", l, e, []api.Row{{Kind: api.RAdd, Msg: api.Msg{UID: 30, Mod: 1000000, ID: "q"}}}, api.OK)
	b.High = 1000000
	added(t, b, nil, api.ErrOver)
	b = work()
	b.Next = 1000000
	added(t, b, nil, api.ErrOver)
}

// TestP7_2Order: if several errors apply, the first one that the document lists is told.
func TestP7_2Order(t *testing.T) {
	over := filled(64, 60)
	over.High, over.Next = 1000000, 1000000
	if l, e := row.Add(over, -1, "a b", 32, []string{"a b"}, ""); e != api.ErrArg || len(l) != 0 {
		t.Errorf("words: %d", e)
	}
	if l, e := row.Add(over, -1, "a b", 32, nil, ""); e != api.ErrFull || len(l) != 0 {
		t.Errorf("messages: %d", e)
	}
	over.Msgs = nil
	if l, e := row.Add(over, -1, "a b", 32, []string{"z"}, ""); e != api.ErrFull || len(l) != 0 {
		t.Errorf("room for words: %d", e)
	}
	if l, e := row.Add(over, -1, "a b", 32, nil, ""); e != api.ErrOver || len(l) != 0 {
		t.Errorf("numbers: %d", e)
	}
}

// flagged fails the test where Flags of work's message 3 (FSeen; w, y), or another one, tells other rows or another Errno.
func flagged(t *testing.T, b api.Box, uid, flags int, words []string, how int, e api.Errno, want ...api.Row) {
	t.Helper()
	got, ge := row.Flags(b, uid, flags, words, how)
	rowsAre(t, []any{uid, flags, words, how}, got, ge, want, e)
}

// TestP7_3Flags: just these, these too, or its own without these.
func TestP7_3Flags(t *testing.T) {
	for _, x := range []struct {
		flags int
		words []string
		how   int
		fresh []string
		to    int
		keys  []int
	}{
		{4, nil, 0, nil, 4, nil}, {0, nil, 0, nil, 0, nil}, {8, nil, 0, nil, 8, nil}, {8, []string{"w"}, 0, nil, 8, []int{0}}, {31, []string{"y", "w"}, 0, nil, 31, []int{0, 2}},
		{8, []string{"x", "y", "w"}, 0, nil, 8, []int{0, 1, 2}}, {0, []string{"z", "x", "a"}, 0, []string{"z", "a"}, 0, []int{1, 3, 4}}, {8, []string{"y", "w", "z"}, 0, []string{"z"}, 8, []int{0, 2, 3}},
		{4, nil, 1, nil, 12, []int{0, 2}}, {31, nil, 1, nil, 31, []int{0, 2}}, {0, []string{"x"}, 1, nil, 8, []int{0, 1, 2}}, {1, []string{"x", "w"}, 1, nil, 9, []int{0, 1, 2}},
		{8, []string{"z", "y", "a"}, 1, []string{"z", "a"}, 8, []int{0, 2, 3, 4}}, {0, []string{"W"}, 1, []string{"W"}, 8, []int{0, 2, 3}},
		{8, nil, 2, nil, 0, []int{0, 2}}, {31, nil, 2, nil, 0, []int{0, 2}}, {0, []string{"w"}, 2, nil, 8, []int{2}}, {4, []string{"y", "z", "x"}, 2, nil, 8, []int{0}},
		{9, []string{"a", "y", "w"}, 2, nil, 0, nil},
	} {
		r := api.Row{Kind: api.RFlags, UID: 3, Mod: 21, Msg: api.Msg{Flags: x.to, Keys: x.keys}}
		flagged(t, work(), 3, x.flags, x.words, x.how, api.OK, append(wordRows(x.fresh...), r)...)
	}
}

// TestP7_3FlagsAlready: a message that has just that already is left as it is, even where no Mod is left.
func TestP7_3FlagsAlready(t *testing.T) {
	over := work()
	over.High = 1000000
	for _, b := range []api.Box{work(), over} {
		flagged(t, b, 3, 8, []string{"y", "w"}, 0, api.OK)
		flagged(t, b, 8, 0, nil, 0, api.OK)
		flagged(t, b, 3, 8, []string{"w"}, 1, api.OK)
		flagged(t, b, 3, 0, nil, 1, api.OK)
		flagged(t, b, 29, 31, nil, 1, api.OK)
		flagged(t, b, 3, 23, []string{"x", "z"}, 2, api.OK)
		flagged(t, b, 3, 0, nil, 2, api.OK)
		flagged(t, b, 8, 31, []string{"w", "x", "y"}, 2, api.OK)
		flagged(t, b, 8, 31, words(1000), 2, api.OK)
	}
}

// TestP7_3FlagsErrors: what keeps flags from being changed.
func TestP7_3FlagsErrors(t *testing.T) {
	for _, b := range noBoxes() {
		for how := range 3 {
			flagged(t, b, 3, 0, nil, how, api.ErrArg)
		}
	}
	number(t, 0, 31, func(n int, want api.Errno) {
		for how := range 3 {
			l, e := row.Flags(work(), 8, n, nil, how)
			if e != want || e != api.OK && len(l) != 0 || e == api.OK && (len(l) == 1) != (n != 0 && how != 2) {
				t.Errorf("flags %d, how %d: %v, %d", n, how, l, e)
			}
		}
	})
	number(t, 0, 2, func(n int, want api.Errno) {
		if l, e := row.Flags(work(), 29, 15, nil, n); e != want || e != api.OK && len(l) != 0 {
			t.Errorf("how %d: %v, %d", n, l, e)
		}
	})
	for _, l := range noWords {
		for how := range 3 {
			flagged(t, work(), 3, 0, l, how, api.ErrArg)
		}
	}
	for _, uid := range append([]int{0, 1, 2, 4, 28, 30, -3, 1000000}, far...) {
		for how := range 3 {
			flagged(t, work(), uid, 0, nil, how, api.ErrNone)
		}
	}
}

// TestP7_3FlagsFull: room for new words, and a number more.
func TestP7_3FlagsFull(t *testing.T) {
	full := filled(64, 1)
	near := filled(63, 1)
	for how := range 2 {
		flagged(t, full, 1, 0, []string{"z"}, how, api.ErrFull)
		flagged(t, near, 1, 0, []string{"z", "w1", "a"}, how, api.ErrFull)
		flagged(t, filled(0, 1), 1, 0, words(65), how, api.ErrFull)
		flagged(t, filled(0, 1), 1, 0, words(100000), how, api.ErrFull)
		flagged(t, full, 1, 0, []string{"w63"}, how, api.OK, api.Row{Kind: api.RFlags, UID: 1, Mod: 2, Msg: api.Msg{Keys: []int{63}}})
		flagged(t, near, 1, 0, []string{"z", "w1"}, how, api.OK, api.Row{Kind: api.RWord, Text: "z"}, api.Row{Kind: api.RFlags, UID: 1, Mod: 2, Msg: api.Msg{Keys: []int{1, 63}}})
	}
	full.Msgs[0].Keys = []int{2, 3}
	flagged(t, full, 1, 0, []string{"z", "w2", "a"}, 2, api.OK, api.Row{Kind: api.RFlags, UID: 1, Mod: 2, Msg: api.Msg{Keys: []int{3}}})
	flagged(t, full, 1, 0, words(100000), 2, api.OK, api.Row{Kind: api.RFlags, UID: 1, Mod: 2})

	b := work()
	b.High = 999999
	flagged(t, b, 8, 1, nil, 1, api.OK, api.Row{Kind: api.RFlags, UID: 8, Mod: 1000000, Msg: api.Msg{Flags: 1}})
	b.High = 1000000
	flagged(t, b, 8, 1, nil, 0, api.ErrOver)
	flagged(t, b, 8, 1, []string{"z"}, 1, api.ErrOver)
	flagged(t, b, 3, 8, nil, 2, api.ErrOver)
}

// TestP7_3FlagsOrder: if several errors apply, the first one that the document lists is told.
func TestP7_3FlagsOrder(t *testing.T) {
	b := filled(64, 1)
	b.High = 1000000
	flagged(t, b, 2, 32, []string{"z"}, 0, api.ErrArg)
	flagged(t, b, 2, 0, []string{"a b"}, 0, api.ErrArg)
	flagged(t, b, 2, 0, []string{"z"}, 3, api.ErrArg)
	flagged(t, b, 2, 0, []string{"z"}, 0, api.ErrNone)
	flagged(t, b, 1, 0, []string{"z"}, 0, api.ErrFull)
	flagged(t, b, 1, 0, []string{"w1"}, 0, api.ErrOver)
}

// TestP7_3Cut: a row for each UID, in the order asked for, each with a Mod of its own.
func TestP7_3Cut(t *testing.T) {
	near, over := work(), work()
	near.High, over.High = 999998, 1000000
	gone := func(uid, mod int) api.Row { return api.Row{Kind: api.RCut, UID: uid, Mod: mod} }
	for i, x := range []struct {
		b    api.Box
		uids []int
		e    api.Errno
		want []api.Row
	}{
		{work(), nil, api.OK, nil}, {work(), []int{}, api.OK, nil}, {work(), []int{8}, api.OK, []api.Row{gone(8, 21)}},
		{work(), []int{3, 8, 29}, api.OK, []api.Row{gone(3, 21), gone(8, 22), gone(29, 23)}}, {work(), []int{29, 3}, api.OK, []api.Row{gone(29, 21), gone(3, 22)}},
		{work(), []int{4}, api.ErrNone, nil}, {work(), []int{3, 30}, api.ErrNone, nil}, {work(), []int{0}, api.ErrNone, nil}, {work(), []int{-3}, api.ErrNone, nil},
		{work(), []int{math.MaxInt}, api.ErrNone, nil}, {work(), []int{math.MinInt, 3}, api.ErrNone, nil},
		{work(), []int{3, 3}, api.ErrNone, nil}, {work(), []int{3, 8, 3}, api.ErrNone, nil}, {work(), make([]int, 100000), api.ErrNone, nil},
		{near, []int{3, 8}, api.OK, []api.Row{gone(3, 999999), gone(8, 1000000)}}, {near, []int{3, 8, 29}, api.ErrOver, nil}, {near, []int{3, 8, 8}, api.ErrNone, nil},
		{over, nil, api.OK, nil}, {over, []int{3}, api.ErrOver, nil}, {over, []int{4}, api.ErrNone, nil}, {over, []int{3, 3}, api.ErrNone, nil},
	} {
		got, e := row.Cut(x.b, x.uids)
		rowsAre(t, i, got, e, x.want, x.e)
	}
	for i, b := range noBoxes() {
		for _, uids := range [][]int{nil, {1}, {3}, {99}} {
			got, e := row.Cut(b, uids)
			rowsAre(t, []any{i, uids}, got, e, nil, api.ErrArg)
		}
	}
	all := filled(0, 60)
	var uids []int
	for _, m := range all.Msgs {
		uids = append(uids, m.UID)
	}
	if l, e := row.Cut(all, uids); len(l) != 60 || e != api.OK || l[59].UID != 60 || l[59].Mod != 61 {
		t.Errorf("all: %v, %d", l, e)
	}
}

// TestP7_3Memory: what is handed in is neither changed nor kept, nor shared by the rows told (R2), and nothing behind a length is read.
func TestP7_3Memory(t *testing.T) {
	b, _, kept := long(api.Row{})
	given := []string{"z", "w", "behind", "a"}
	uids := []int{3, 8, 29, 30}
	calls := []func() ([]api.Row, api.Errno){
		func() ([]api.Row, api.Errno) { return row.Add(b, 0, "", 0, given[:2], "") },
		func() ([]api.Row, api.Errno) { return row.Flags(b, 3, 0, given[:2], 0) },
		func() ([]api.Row, api.Errno) { return row.Flags(b, 3, 0, given[:2], 1) },
		func() ([]api.Row, api.Errno) { return row.Flags(b, 3, 1, nil, 1) },
		func() ([]api.Row, api.Errno) { return row.Flags(b, 3, 0, given[:2], 2) },
		func() ([]api.Row, api.Errno) { return row.Flags(b, 3, 8, nil, 2) },
		func() ([]api.Row, api.Errno) { return row.Cut(b, uids[:3]) },
	}
	for i, call := range calls {
		l, e := call()
		was, _ := call()
		if e != api.OK || len(l) == 0 {
			t.Fatalf("%d: %v, %d", i, l, e)
		}
		for j := range l {
			for k := range l[j].Msg.Keys {
				l[j].Msg.Keys[k] = 99
			}
			_ = append(l[j].Msg.Keys, 99, 99)
			l[j] = api.Row{}
		}
		_ = append(l, api.Row{Kind: 99})
		again, _ := call()
		if !reflect.DeepEqual(again, was) || !kept() || strings.Join(given, " ") != "z w behind a" || !slices.Equal(uids, []int{3, 8, 29, 30}) {
			t.Errorf("%d: memory is shared", i)
		}
	}
}

// random is a box that may be, with few words and messages, and now and then with no room for more.
func random(r *rand.Rand) api.Box {
	b := filled(r.Intn(4), 0)
	switch r.Intn(8) {
	case 0:
		b = filled(60+r.Intn(5), 0)
	case 1:
		b = filled(2, 58+r.Intn(3))
	}
	b.High = 1 + r.Intn(9)
	for range r.Intn(4) {
		if len(b.Msgs) == 60 {
			break
		}
		b.Next += 1 + r.Intn(3)
		m := api.Msg{UID: b.Next - 1, Mod: 1 + r.Intn(b.High), ID: "m", Flags: r.Intn(32)}
		for place := range b.Words {
			if r.Intn(2) == 0 {
				m.Keys = append(m.Keys, place)
			}
		}
		b.Msgs = append(b.Msgs, m)
	}
	if r.Intn(8) == 0 {
		b.High = 1000000 - r.Intn(3)
	}
	return b
}

// randomWords is some words, most of them new to few boxes.
func randomWords(r *rand.Rand) []string {
	l := []string{"w0", "w1", "w2", "w3", "z", "a"}
	r.Shuffle(len(l), func(i, j int) { l[i], l[j] = l[j], l[i] })
	return l[:r.Intn(4)]
}

// done fails the test where rows that were made of b can't be done to it, or read back; it tells what they make of b.
func done(t *testing.T, b api.Box, l []api.Row) api.Box {
	t.Helper()
	got, e := row.All(b, l)
	if e != api.OK || box.May(got) != api.OK {
		t.Fatalf("rows %v of %v: %v, %d", l, b, got, e)
	}
	bytes := row.Bytes(l)
	if back, e := row.Parse(bytes); e != api.OK || !row.Same(back, l) || (len(bytes) == 0) != (len(l) == 0) {
		t.Fatalf("rows %v: %x, %v, %d", l, bytes, back, e)
	}
	return got
}

// wordsOf is the words of b's message with that UID, in their own order.
func wordsOf(b api.Box, uid int) []string {
	l := box.Words(b, b.Msgs[box.Find(b, uid)])
	slices.Sort(l)
	return l
}

// TestP7_5Add: what is made by Add adds just that message.
func TestP7_5Add(t *testing.T) {
	r := rand.New(rand.NewSource(7))
	ends := map[api.Errno]int{}
	for range 5000 {
		b, words := random(r), randomWords(r)
		l, e := row.Add(b, 5, "", r.Intn(32), words, "t")
		ends[e]++
		if e != api.OK {
			continue
		}
		got := done(t, b, l)
		slices.Sort(words)
		if !slices.Equal(wordsOf(got, b.Next), words) || got.High != b.High+1 || got.Next != b.Next+1 || !slices.Equal(got.Words[:len(b.Words)], b.Words) {
			t.Fatalf("%v added to %v: %v", words, b, got)
		}
		got.Msgs, got.Words, got.High, got.Next = got.Msgs[:len(b.Msgs)], b.Words, b.High, b.Next
		if !box.Same(got, b) {
			t.Fatalf("more than a message has changed: %v, %v", b, got)
		}
	}
	if ends[api.OK] < 1000 || ends[api.ErrFull] == 0 || ends[api.ErrOver] == 0 || len(ends) != 3 {
		t.Errorf("ends: %v", ends)
	}
}

// expected is the flags and words that a message with these shall have.
func expected(flags, given int, own, words []string, how int) (int, []string) {
	var l []string
	for _, word := range append(slices.Clone(own), words...) {
		has, asked := slices.Contains(own, word), slices.Contains(words, word)
		if how == 0 && asked || how == 1 || how == 2 && has && !asked {
			l = append(l, word)
		}
	}
	slices.Sort(l)
	return []int{given, flags | given, flags &^ given}[how], slices.Compact(l)
}

// TestP7_5Flags: what is made by Flags changes just that message's flags and words.
func TestP7_5Flags(t *testing.T) {
	r := rand.New(rand.NewSource(8))
	ends := map[api.Errno]int{}
	for range 20000 {
		b, words, given, how := random(r), randomWords(r), r.Intn(32), r.Intn(3)
		if len(b.Msgs) == 0 {
			continue
		}
		at := r.Intn(len(b.Msgs))
		m := b.Msgs[at]
		l, e := row.Flags(b, m.UID, given, words, how)
		ends[e]++
		if e != api.OK {
			continue
		}
		got := done(t, b, l)
		flags, shall := expected(m.Flags, given, wordsOf(b, m.UID), words, how)
		if got.Msgs[at].Flags != flags || !slices.Equal(wordsOf(got, m.UID), shall) || len(l) > 0 && (got.High != b.High+1 || got.Msgs[at].Mod != got.High) {
			t.Fatalf("%d %v %d of %v: %v", given, words, how, b, got)
		}
		if len(l) == 0 != (flags == m.Flags && slices.Equal(shall, wordsOf(b, m.UID))) {
			t.Fatalf("%d %v %d of %v: %d rows", given, words, how, b, len(l))
		}
		got.Msgs[at], got.High, got.Words = m, b.High, got.Words[:len(b.Words)]
		if !box.Same(got, b) {
			t.Fatalf("more than a message has changed: %v, %v", b, got)
		}
	}
	if ends[api.OK] < 1000 || ends[api.ErrFull] == 0 || ends[api.ErrOver] == 0 || len(ends) != 3 {
		t.Errorf("ends: %v", ends)
	}
}

// TestP7_5Cut: what is made by Cut takes just these messages.
func TestP7_5Cut(t *testing.T) {
	r := rand.New(rand.NewSource(9))
	ends := map[api.Errno]int{}
	for range 5000 {
		b := random(r)
		var uids []int
		for _, m := range b.Msgs {
			if r.Intn(2) == 0 {
				uids = append(uids, m.UID)
			}
		}
		r.Shuffle(len(uids), func(i, j int) { uids[i], uids[j] = uids[j], uids[i] })
		l, e := row.Cut(b, uids)
		ends[e]++
		if e != api.OK {
			continue
		}
		got := done(t, b, l)
		want := box.Copy(b)
		want.High += len(uids)
		want.Msgs = slices.DeleteFunc(want.Msgs, func(m api.Msg) bool { return slices.Contains(uids, m.UID) })
		if !box.Same(got, want) {
			t.Fatalf("%v cut from %v: %v", uids, b, got)
		}
	}
	if ends[api.OK] < 1000 || ends[api.ErrOver] == 0 || len(ends) != 2 {
		t.Errorf("ends: %v", ends)
	}
}
