// Package image_test asks image by its face alone, promise by promise.
package image_test

import (
	"bytes"
	"math"
	"math/rand"
	"reflect"
	"slices"
	"strconv"
	"strings"
	"testing"

	"mailsack/api"
	"mailsack/box"
	"mailsack/form1"
	"mailsack/form2"
	"mailsack/form3"
	"mailsack/image"
	"mailsack/row"
	"mailsack/samples"
)

// written tells b in a form by that form's own package.
func written(version int, b api.Box) ([]byte, api.Errno) {
	switch version {
	case 1:
		return form1.Bytes(b)
	case 2:
		return form2.Bytes(b)
	}
	return form3.Bytes(b)
}

// read tells the box id that raw is by the form's own package.
func read(version int, raw []byte, id string) (api.Box, api.Errno) {
	switch version {
	case 1:
		return form1.Parse(raw, id)
	case 2:
		return form2.Parse(raw, id)
	}
	return form3.Parse(raw, id)
}

// full is a box of which the forms leave as much as may be: two rows of each of 60 messages.
// The keys of every second one are such that the first form leaves a name and a Mod, not flags and a name.
func full() api.Box {
	b := samples.Full()
	for i := range b.Msgs {
		b.Msgs[i].Keys = b.Msgs[i].Keys[:32<<(i%2)]
	}
	return b
}

// high, word, flags, name and mod are rows.
func high(mod int) api.Row            { return api.Row{Kind: api.RHigh, Mod: mod} }
func word(text string) api.Row        { return api.Row{Kind: api.RWord, Text: text} }
func name(uid int, id string) api.Row { return api.Row{Kind: api.RName, UID: uid, Text: id} }
func mod(uid, mod int) api.Row        { return api.Row{Kind: api.RMod, UID: uid, Mod: mod} }
func flags(uid, mod, flags int, keys ...int) api.Row {
	return api.Row{Kind: api.RFlags, UID: uid, Mod: mod, Msg: api.Msg{Flags: flags, Keys: keys}}
}

// made fails the test where Make of a form tells other bytes than the form's own, or another rest.
func made(t *testing.T, what any, version int, b api.Box, rest ...api.Row) {
	t.Helper()
	want, _ := written(version, b)
	raw, l, e := image.Make(version, b)
	if !bytes.Equal(raw, want) || !row.Same(l, rest) || e != api.OK {
		t.Errorf("Make(%d) of %v: %x, %v, error %d; not %x, %v", version, what, raw, l, e, want, rest)
	}
}

// whole fails the test where Whole tells another box or another Errno.
func whole(t *testing.T, what any, raw []byte, id string, rows []api.Row, want api.Box, e api.Errno) {
	t.Helper()
	if got, ge := image.Whole(raw, id, rows); !box.Same(got, want) || ge != e {
		t.Errorf("Whole of %v: %v, error %d; not %v, %d", what, got, ge, want, e)
	}
}

// TestP11_1Version: by the first three bytes alone.
func TestP11_1Version(t *testing.T) {
	for s, want := range map[string]int{
		"MB1": 1, "MB2": 2, "MB3": 3, "MB10": 1, "MB2x": 2, "MB3\x00": 3, "MB3MB1": 3, "MB1MB2MB3": 1,
		"": 0, "M": 0, "MB": 0, "MB0": 0, "MB4": 0, "MB\x01": 0, "MB\xb1": 0, "mb1": 0, "Mb1": 0, " MB1": 0, "xMB1": 0, "B1": 0, "BM1": 0, "M1": 0, "1": 0, "MBMB1": 0, "\x00MB1": 0,
	} {
		if got := image.Version([]byte(s)); got != want {
			t.Errorf("Version of %q: %d, not %d", s, got, want)
		}
	}
	if got := image.Version(nil); got != 0 {
		t.Errorf("Version of nil: %d", got)
	}
	behind := []byte("MB1")
	if got := image.Version(behind[:2]); got != 0 {
		t.Errorf("Version of what lies behind a length: %d", got)
	}
}

// TestP11_1Parse: it is what the form's own Parse tells, of whole bytes and of others, and ErrForm of no form.
func TestP11_1Parse(t *testing.T) {
	same := func(version int, raw []byte, id string) {
		t.Helper()
		want, we := read(version, raw, id)
		if got, e := image.Parse(raw, id); !box.Same(got, want) || e != we {
			t.Errorf("Parse of %x as %q: %v, error %d; not %v, %d", raw, id, got, e, want, we)
		}
	}
	for _, b := range []api.Box{box.Empty("b1", 5), samples.Plain(), full()} {
		for version := 1; version <= 3; version++ {
			raw, _ := written(version, b)
			for _, id := range []string{b.ID, "b1", "b2", "", "a b", strings.Repeat("b", 13)} {
				same(version, raw, id)
				same(version, raw[:len(raw)-1], id)
				same(version, append(bytes.Clone(raw), 0), id)
				same(version, raw[:3], id)
			}
			if got, e := image.Parse(raw, b.ID); e != api.OK || got.Valid != b.Valid || len(got.Msgs) != len(b.Msgs) {
				t.Errorf("Parse of form %d: %v, error %d", version, got, e)
			}
			for _, mark := range []string{"MB0", "MB4", "mb1", "M", ""} {
				other := append([]byte(mark), raw[3:]...)
				if got, e := image.Parse(other, b.ID); e != api.ErrForm || !box.Same(got, api.Box{}) {
					t.Errorf("Parse of %x: %v, error %d", other, got, e)
				}
			}
		}
	}
	if got, e := image.Parse(nil, "b1"); e != api.ErrForm || !box.Same(got, api.Box{}) {
		t.Errorf("Parse of nil: %v, error %d", got, e)
	}
}

// TestP11_2MakeArg: no form, or no box, whatever box.May says of it.
func TestP11_2MakeArg(t *testing.T) {
	refused := func(what any, version int, b api.Box) {
		t.Helper()
		if raw, l, e := image.Make(version, b); len(raw) != 0 || len(l) != 0 || e != api.ErrArg {
			t.Errorf("Make(%d) of %v: %x, %v, error %d", version, what, raw, l, e)
		}
	}
	for _, version := range []int{0, 4, 5, -1, -2, -3, 1 << 32, 1<<32 + 1, 256 + 1, math.MinInt, math.MinInt + 1, math.MaxInt} {
		refused("a box", version, samples.Plain())
		refused("nothing", version, api.Box{})
	}
	for i, change := range []func(b *api.Box){
		func(b *api.Box) { *b = api.Box{} },
		func(b *api.Box) { b.ID = "" },
		func(b *api.Box) { b.Valid = 0 },
		func(b *api.Box) { b.High = 1000001 },
		func(b *api.Box) { b.Next = 999999 },
		func(b *api.Box) { b.Words = samples.Words(65) },
		func(b *api.Box) { b.Words = samples.Words(300) },
		func(b *api.Box) { b.Words[63] = b.Words[62] },
		func(b *api.Box) { b.Msgs = append(b.Msgs, b.Msgs...) },
		func(b *api.Box) { b.Msgs = make([]api.Msg, 61) },
		func(b *api.Box) { b.Msgs[59].ID = "a b" },
		func(b *api.Box) { b.Msgs[59].Keys = []int{64} },
	} {
		for version := 1; version <= 3; version++ {
			b := full()
			change(&b)
			refused(i, version, b)
		}
	}
}

// TestP11_2Nothing: of a box of which each form says all no rows are left.
func TestP11_2Nothing(t *testing.T) {
	for version := 1; version <= 3; version++ {
		made(t, "an empty box", version, box.Empty("b1", 5))
		made(t, "a plain box", version, samples.Plain())
	}
}

// TestP11_2Rest: what is left of one thing that a form does not say, thing by thing.
func TestP11_2Rest(t *testing.T) {
	for _, x := range []struct {
		what   string
		change func(b *api.Box)
		one    []api.Row // of form 1
		two    []api.Row // of form 2
	}{
		{"a High", func(b *api.Box) { b.High = 2 }, []api.Row{high(2)}, nil},
		{"the greatest High", func(b *api.Box) { b.High = 1000000 }, []api.Row{high(1000000)}, nil},
		{"a Valid and a Next", func(b *api.Box) { b.Valid, b.Next = 1000000, 1000000 }, nil, nil},
		{"a word less", func(b *api.Box) { b.Words, b.Msgs[0].Keys = b.Words[:31], nil }, nil, nil},
		{"no words", func(b *api.Box) { b.Words, b.Msgs[0].Keys = nil, nil }, nil, nil},
		{"a word more", func(b *api.Box) { b.Words = samples.Words(33) }, []api.Row{word("w32")}, []api.Row{word("w32")}},
		{"two words more", func(b *api.Box) { b.Words = append(b.Words, "z", "a") }, []api.Row{word("z"), word("a")}, []api.Row{word("z"), word("a")}},
		{"a Mod", func(b *api.Box) { b.High, b.Msgs[1].Mod = 3, 3 }, []api.Row{high(3), mod(29, 3)}, nil},
		{"Mods", func(b *api.Box) { b.High, b.Msgs[0].Mod, b.Msgs[1].Mod = 9, 3, 2 }, []api.Row{high(9), mod(2, 3), mod(29, 2)}, nil},
		{"a name", func(b *api.Box) { b.Msgs[1].ID = "q" }, []api.Row{name(29, "q")}, []api.Row{name(29, "q")}},
		{"another UID's name", func(b *api.Box) { b.Msgs[1].ID = "e2-b1" }, []api.Row{name(29, "e2-b1")}, []api.Row{name(29, "e2-b1")}},
		{"another box's name", func(b *api.Box) { b.Msgs[0].ID = "e2-b2" }, []api.Row{name(2, "e2-b2")}, []api.Row{name(2, "e2-b2")}},
		{"a name in great letters", func(b *api.Box) { b.Msgs[0].ID = "E2-B1" }, []api.Row{name(2, "E2-B1")}, []api.Row{name(2, "E2-B1")}},
		{"another box", func(b *api.Box) { b.ID = "b2" }, []api.Row{name(2, "e2-b1"), name(29, "e29-b1")}, []api.Row{name(2, "e2-b1"), name(29, "e29-b1")}},
		{"a name and a Mod", func(b *api.Box) { b.High, b.Msgs[0].ID, b.Msgs[0].Mod = 7, "q", 6 }, []api.Row{high(7), name(2, "q"), mod(2, 6)}, []api.Row{name(2, "q")}},
		{"all of flags, keys, date and text that the forms say", func(b *api.Box) {
			b.Msgs[1] = api.Msg{UID: 3, Mod: 1, Date: 1000000, ID: "e3-b1", Flags: 31, Keys: []int{0, 1, 2, 30, 31}, Text: "\x00"}
		}, nil, nil},
	} {
		b := samples.Plain()
		x.change(&b)
		made(t, x.what, 1, b, x.one...)
		made(t, x.what, 2, b, x.two...)
		made(t, x.what, 3, b)
	}
}

// TestP11_2Keys: of a message with a key from 32 on there is a row of its flags, all its keys and its Mod, and none of its Mod beside it.
func TestP11_2Keys(t *testing.T) {
	for key := range 64 {
		b := api.Box{ID: "b1", Valid: 5, Next: 10, High: 4, Words: samples.Words(64)}
		for i, keys := range [][]int{{key}, nil, {key}, {31, key}, {0, key}, {key, 63}} {
			if len(keys) > 1 && keys[0] >= keys[1] {
				keys = keys[:1]
			}
			m := api.Msg{UID: i + 1, Mod: 1 + i%2, ID: box.Own("b1", i+1), Flags: i, Keys: keys}
			if i > 2 {
				m.ID = "n" // a name beside it
			}
			b.Msgs = append(b.Msgs, m)
		}
		var rest []api.Row
		for i := 32; i < 64; i++ {
			rest = append(rest, word("w"+strconv.Itoa(i)))
		}
		one := append([]api.Row{high(4)}, rest...)
		for i, m := range b.Msgs {
			far := len(m.Keys) > 0 && m.Keys[len(m.Keys)-1] > 31
			if far {
				one = append(one, flags(i+1, m.Mod, i, m.Keys...))
				rest = append(rest, flags(i+1, m.Mod, i, m.Keys...))
			}
			if i > 2 {
				one = append(one, name(i+1, "n"))
				rest = append(rest, name(i+1, "n"))
			}
			if i%2 == 1 && !far {
				one = append(one, mod(i+1, 2))
			}
		}
		made(t, key, 1, b, one...)
		made(t, key, 2, b, rest...)
		made(t, key, 3, b)
	}
}

// TestP11_2Order: High, words, and of each message flags, name, Mod: in the order of words and messages.
func TestP11_2Order(t *testing.T) {
	b := api.Box{ID: "b1", Valid: 5, Next: 30, High: 9, Words: samples.Words(34), Msgs: []api.Msg{
		{UID: 2, Mod: 3, ID: "q", Flags: 9, Keys: []int{0, 32}, Text: "hi"},
		{UID: 8, Mod: 1, ID: "e8-b1"},
		{UID: 9, Mod: 9, ID: "e9-b1", Keys: []int{33}},
		{UID: 20, Mod: 4, ID: "n", Keys: []int{31}},
		{UID: 21, Mod: 1, ID: "m"},
		{UID: 22, Mod: 1, ID: "m", Flags: 31, Keys: []int{0, 31, 33}},
	}}
	made(t, "a box", 1, b, high(9), word("w32"), word("w33"),
		flags(2, 3, 9, 0, 32), name(2, "q"), flags(9, 9, 0, 33), name(20, "n"), mod(20, 4), name(21, "m"), flags(22, 1, 31, 0, 31, 33), name(22, "m"))
	made(t, "a box", 2, b, word("w32"), word("w33"),
		flags(2, 3, 9, 0, 32), name(2, "q"), flags(9, 9, 0, 33), name(20, "n"), name(21, "m"), flags(22, 1, 31, 0, 31, 33), name(22, "m"))
	made(t, "a box", 3, b)
}

// TestP11_2Most: of the box of which most is left there are fewer rows than MaxRows, and they may be written.
func TestP11_2Most(t *testing.T) {
	for version, want := range map[int]int{1: 1 + 32 + 120, 2: 32 + 90, 3: 0} {
		raw, l, e := image.Make(version, full())
		if len(l) != want || e != api.OK {
			t.Errorf("form %d: %d rows, error %d", version, len(l), e)
		}
		back, e := row.Parse(row.Bytes(l))
		if !row.Same(back, l) || e != api.OK {
			t.Errorf("form %d: the rows are read as %v, error %d", version, back, e)
		}
		whole(t, version, raw, full().ID, back, full(), api.OK)
	}
}

// TestP11_2Whole: any rows are done to what the form says, one by one; the first error is told alone.
func TestP11_2Whole(t *testing.T) {
	b := samples.Plain()
	for version := 1; version <= 3; version++ {
		raw, _ := written(version, b)
		whole(t, "no rows", raw, "b1", nil, b, api.OK)
		whole(t, "empty rows", raw, "b1", []api.Row{}, b, api.OK)

		want := box.Copy(b)
		want.Next, want.High, want.Words = 41, 7, append(want.Words, "more")
		want.Msgs[1].Flags, want.Msgs[1].Keys, want.Msgs[1].Mod = 4, []int{3, 32}, 6
		want.Msgs = append(want.Msgs[1:], api.Msg{UID: 40, Mod: 7, ID: "last", Keys: []int{32}})
		l := []api.Row{word("more"), flags(29, 6, 4, 3, 32), {Kind: api.RCut, UID: 2, Mod: 5}, {Kind: api.RAdd, Msg: want.Msgs[1]}}
		whole(t, "rows", raw, "b1", l, want, api.OK)
		whole(t, "a word ahead of its row", raw, "b1", []api.Row{l[1], l[0]}, api.Box{}, api.ErrArg)

		whole(t, "a message that is none", raw, "b1", append(slices.Clone(l), mod(2, 5)), api.Box{}, api.ErrNone)
		whole(t, "a word twice", raw, "b1", []api.Row{word("w0"), mod(3, 5)}, api.Box{}, api.ErrTwice)
		whole(t, "no kind", raw, "b1", []api.Row{{}, word("w0")}, api.Box{}, api.ErrArg)
	}
}

// TestP11_2WholeOrder: Parse's error is told ahead of that of rows.
func TestP11_2WholeOrder(t *testing.T) {
	wrong := []api.Row{mod(7, 1)}
	for version := 1; version <= 3; version++ {
		raw, _ := written(version, samples.Plain())
		whole(t, "wrong rows", raw, "b1", wrong, api.Box{}, api.ErrNone)
		for _, l := range [][]api.Row{nil, {word("more")}, wrong} {
			whole(t, "short", raw[:len(raw)-1], "b1", l, api.Box{}, api.ErrShort)
			whole(t, "long", append(bytes.Clone(raw), 0), "b1", l, api.Box{}, api.ErrForm)
			whole(t, "a mark alone", raw[:3], "b1", l, api.Box{}, api.ErrShort)
			whole(t, "no mark", raw[1:], "b1", l, api.Box{}, api.ErrForm)
			whole(t, "nothing", nil, "b1", l, api.Box{}, api.ErrForm)
			whole(t, "no ID", raw, "", l, api.Box{}, api.ErrForm)
		}
	}
	raw, _ := form3.Bytes(samples.Plain())
	whole(t, "another ID", raw, "b2", wrong, api.Box{}, api.ErrForm)
}

// between tells the rows from one box to another, by holding the two against each other, knowing nothing of forms.
func between(one, other api.Box) []api.Row {
	var l []api.Row
	if one.High != other.High {
		l = append(l, high(other.High))
	}
	for _, text := range other.Words[len(one.Words):] {
		l = append(l, word(text))
	}
	for i, m := range other.Msgs {
		was := one.Msgs[i]
		if !slices.Equal(was.Keys, m.Keys) {
			l = append(l, flags(m.UID, m.Mod, m.Flags, m.Keys...))
			was.Mod = m.Mod
		}
		if was.ID != m.ID {
			l = append(l, name(m.UID, m.ID))
		}
		if was.Mod != m.Mod {
			l = append(l, mod(m.UID, m.Mod))
		}
	}
	return l
}

// TestP11_3Whole: Whole of what is made is the box, in each form; and what is left is just what the form alone does not say.
func TestP11_3Whole(t *testing.T) {
	r := rand.New(rand.NewSource(11))
	var some [4]int
	for range 3000 {
		b := samples.Drawn(r.Intn)
		for version := 1; version <= 3; version++ {
			raw, l, e := image.Make(version, b)
			if e != api.OK || image.Version(raw) != version {
				t.Fatalf("Make(%d) of %v: %x, error %d", version, b, raw, e)
			}
			whole(t, b, raw, b.ID, l, b, api.OK)
			alone, e := image.Parse(raw, b.ID)
			if e != api.OK {
				t.Fatalf("Parse of form %d of %v: error %d", version, b, e)
			}
			if want := between(alone, b); !row.Same(l, want) {
				t.Fatalf("Make(%d) of %v: %v; not %v", version, b, l, want)
			}
			if len(l) > 0 {
				some[version]++
			}
		}
	}
	if some[1] < 1000 || some[1] <= some[2] || some[2] < 1000 || some[2] == 3000 || some[3] != 0 {
		t.Errorf("boxes of which something is left: %v", some)
	}
}

// TestP11_3Changed: what is changed behind the rest comes out as it does of the box itself.
func TestP11_3Changed(t *testing.T) {
	r := rand.New(rand.NewSource(12))
	for range 500 {
		b := samples.Drawn(r.Intn)
		more, e := row.Add(b, 7, "", 8, []string{"w0", "w3"}, "more")
		if e != api.OK {
			t.Fatalf("Add to %v: error %d", b, e)
		}
		want, _ := row.All(b, more)
		for version := 1; version <= 3; version++ {
			raw, l, _ := image.Make(version, b)
			whole(t, b, raw, b.ID, append(l, more...), want, api.OK)
		}
	}
}

// TestKeeps: what is handed in stays, and what lies behind it is not told (R2).
func TestKeeps(t *testing.T) {
	long := full()
	for i := range long.Msgs {
		long.Msgs[i].Keys = append(long.Msgs[i].Keys, 7, 7)
	}
	long.Words = append(long.Words, "behind")
	long.Msgs = append(long.Msgs, api.Msg{ID: "behind"})
	was := box.Copy(long)
	b := long
	b.Words, b.Msgs = long.Words[:64], slices.Clone(long.Msgs[:60])
	for i := range b.Msgs {
		b.Msgs[i].Keys = b.Msgs[i].Keys[:len(b.Msgs[i].Keys)-2]
	}
	for version := 1; version <= 3; version++ {
		raw, l, e := image.Make(version, b)
		if again, al, ae := image.Make(version, full()); !bytes.Equal(raw, again) || !row.Same(l, al) || e != ae {
			t.Errorf("form %d: what lies behind a length is told", version)
		}
		back := append(bytes.Clone(raw), 7, 7)
		rows := append(slices.Clone(l), api.Row{})
		whole(t, version, back[:len(raw)], b.ID, rows[:len(l)], full(), api.OK)
		if !bytes.Equal(back, append(bytes.Clone(raw), 7, 7)) || !row.Same(rows, append(slices.Clone(l), api.Row{})) {
			t.Errorf("form %d: Whole changed what it was given", version)
		}
	}
	if !reflect.DeepEqual(long, was) {
		t.Error("Make changed what it was given")
	}
}

// TestKeepsOwn: what is told is the caller's own, and no two lists of it share memory (R2).
func TestKeepsOwn(t *testing.T) {
	for version := 1; version <= 3; version++ {
		b := full()
		shared := b.Msgs[1].Keys
		for i := range b.Msgs {
			b.Msgs[i].Keys = shared
		}
		was := box.Copy(b)
		raw, l, _ := image.Make(version, b)
		kept, rows, _ := image.Make(version, b)
		x, _ := image.Whole(raw, b.ID, l)
		for i := range raw {
			raw[i] = 9
		}
		for i := range l {
			for j := range l[i].Msg.Keys {
				l[i].Msg.Keys[j] += 100 * i
			}
			_ = append(l[i].Msg.Keys, 99)
		}
		for i, r := range l {
			if len(r.Msg.Keys) > 0 && (r.Msg.Keys[0] != 100*i || r.Msg.Keys[63] != 100*i+63) {
				t.Fatalf("form %d: keys of two rows share memory", version)
			}
		}
		if !box.Same(b, was) || !box.Same(x, was) {
			t.Errorf("form %d: what Make told shares memory with the box, or with what Whole told", version)
		}
		for i := range x.Msgs {
			x.Msgs[i].Keys[0] = 63
		}
		x.Words[0] = "other"
		whole(t, version, kept, b.ID, rows, was, api.OK)
	}
}
