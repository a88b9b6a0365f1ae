// Package hold_test asks hold by its face alone, promise by promise.
package hold_test

import (
	"bytes"
	"encoding/hex"
	"math"
	"math/rand"
	"slices"
	"strconv"
	"strings"
	"testing"

	"mailsack/api"
	"mailsack/box"
	"mailsack/hold"
	"mailsack/image"
	"mailsack/rack"
	"mailsack/row"
	"mailsack/safe"
	"mailsack/samples"
)

const most = 1000000 // the greatest room that a rack may have

// High, word, flags, name, mod and cut are rows.
func high(mod int) api.Row            { return api.Row{Kind: api.RHigh, Mod: mod} }
func word(text string) api.Row        { return api.Row{Kind: api.RWord, Text: text} }
func name(uid int, id string) api.Row { return api.Row{Kind: api.RName, UID: uid, Text: id} }
func mod(uid, mod int) api.Row        { return api.Row{Kind: api.RMod, UID: uid, Mod: mod} }
func cut(uid, mod int) api.Row        { return api.Row{Kind: api.RCut, UID: uid, Mod: mod} }
func add(m api.Msg) api.Row           { return api.Row{Kind: api.RAdd, Msg: m} }
func flags(uid, mod, flags int, keys ...int) api.Row {
	return api.Row{Kind: api.RFlags, UID: uid, Mod: mod, Msg: api.Msg{Flags: flags, Keys: keys}}
}

// empty is a safe on a rack without files.
func empty(t *testing.T) (*rack.Rack, *safe.Safe) {
	t.Helper()
	r := rack.New(most)
	return r, open(t, r)
}

// open opens r, which must be OK.
func open(t *testing.T, r *rack.Rack) *safe.Safe {
	t.Helper()
	s, e := safe.Open(r)
	if e != api.OK {
		t.Fatalf("Open: error %d", e)
	}
	return s
}

// lay lets a file stand on the rack, without hold.
func lay(t *testing.T, r *rack.Rack, name string, data []byte) {
	t.Helper()
	if e := r.Write(name, data); e != api.OK {
		t.Fatalf("Write %s: error %d", name, e)
	}
}

// commit does a Commit, which must be OK.
func commit(t *testing.T, s *safe.Safe, l []api.Change) {
	t.Helper()
	if e := s.Commit(l); e != api.OK {
		t.Fatalf("Commit: error %d", e)
	}
}

// put keeps b in a form.
func put(t *testing.T, s *safe.Safe, form int, b api.Box) {
	t.Helper()
	l, e := hold.Put(form, b)
	if e != api.OK {
		t.Fatalf("Put(%d): error %d", form, e)
	}
	commit(t, s, l)
}

// more does rows to the box with that ID.
func more(t *testing.T, s *safe.Safe, id string, rows ...api.Row) {
	t.Helper()
	l, e := hold.More(s, id, rows)
	if e != api.OK {
		t.Fatalf("More %v: error %d", rows, e)
	}
	commit(t, s, l)
}

// stands is a safe on a rack where b is kept in a form, with these rows beside it, all laid without hold.
func stands(t *testing.T, form int, b api.Box, rows ...api.Row) (*rack.Rack, *safe.Safe) {
	t.Helper()
	raw, rest, e := image.Make(form, b)
	beside := row.Bytes(append(rest, rows...))
	if e != api.OK || len(beside) == 0 && len(rest)+len(rows) > 0 {
		t.Fatalf("form %d of %v with %d rows: error %d", form, b, len(rest)+len(rows), e)
	}
	r, s := empty(t)
	lay(t, r, "i"+b.ID, raw)
	lay(t, r, "r"+b.ID, beside)
	return r, s
}

// state is how many writes were done, and how many of them are loose: no write, no Cut and no Flush leaves both as they were.
func state(r *rack.Rack) [2]int {
	return [2]int{r.Writes(), r.Loose()}
}

// loads fails the test where something else is kept, or Load changes anything.
func loads(t *testing.T, what any, s *safe.Safe, b api.Box, form int, rows []api.Row) {
	t.Helper()
	before := state(s.Rack())
	k, e := hold.Load(s, b.ID)
	if e != api.OK || k.Form != form || !box.Same(k.Box, b) || !row.Same(k.Rows, rows) {
		t.Fatalf("%v: Load: %v, error %d; not %v in form %d with %v", what, k, e, b, form, rows)
	}
	if after := state(s.Rack()); after != before {
		t.Fatalf("%v: Load changed %v to %v", what, before, after)
	}
}

// refused fails the test where Load, and More of any rows, tell another error, or anything beside it.
func refused(t *testing.T, what any, s *safe.Safe, id string, want api.Errno) {
	t.Helper()
	if k, e := hold.Load(s, id); e != want || k.Form != 0 || len(k.Rows) != 0 || !box.Same(k.Box, api.Box{}) {
		t.Errorf("%v: Load: %v, error %d, not %d", what, k, e, want)
	}
	for _, rows := range [][]api.Row{nil, {high(9)}, {{}}, {mod(77, 1)}, slices.Repeat([]api.Row{high(9)}, 201)} {
		refusedMore(t, what, s, id, rows, want)
	}
}

// refusedMore fails the test where More tells another error, or anything beside it, or changes anything.
func refusedMore(t *testing.T, what any, s *safe.Safe, id string, rows []api.Row, want api.Errno) {
	t.Helper()
	before := state(s.Rack())
	if l, e := hold.More(s, id, rows); e != want || len(l) != 0 {
		t.Errorf("%v: More: %v, error %d, not %d", what, l, e, want)
	}
	if after := state(s.Rack()); after != before {
		t.Errorf("%v: More changed %v to %v", what, before, after)
	}
}

// same tells whether two lists of changes are alike in all.
func same(a, b []api.Change) bool {
	return slices.EqualFunc(a, b, func(a, b api.Change) bool {
		return a.Name == b.Name && a.Cut == b.Cut && bytes.Equal(a.Data, b.Data)
	})
}

// boxes are some that each form says, and some that it does not.
func boxes() []api.Box {
	return []api.Box{box.Empty("b1", 5), samples.Plain(), samples.Rich(), samples.Full(), {ID: "edo", Valid: 1, Next: 1, High: 7}}
}

// TestP15_1Load: the box, its form, and the rows: those that say what the form does not, and those that came behind.
func TestP15_1Load(t *testing.T) {
	for form := 1; form <= 3; form++ {
		for _, b := range boxes() {
			_, rest, _ := image.Make(form, b)
			_, s := stands(t, form, b)
			loads(t, form, s, b, form, rest)
		}
		b := samples.Plain()
		rows := []api.Row{word("x"), flags(29, 4, 8, 0, 32), name(29, "n"), mod(2, 3), cut(2, 6), add(api.Msg{UID: 40, Mod: 5, Date: 9, ID: "m", Flags: 1, Keys: []int{32}, Text: "hey"}), high(9)}
		want := api.Box{ID: "b1", Valid: 5, Next: 41, High: 9, Words: append(samples.Words(32), "x"), Msgs: []api.Msg{
			{UID: 29, Mod: 4, ID: "n", Flags: 8, Keys: []int{0, 32}},
			{UID: 40, Mod: 5, Date: 9, ID: "m", Flags: 1, Keys: []int{32}, Text: "hey"},
		}}
		_, s := stands(t, form, b, rows...)
		loads(t, form, s, want, form, rows)
	}
}

// TestP15_1Files: the box is told by its own two files alone, whatever else lies there.
func TestP15_1Files(t *testing.T) {
	for form := 1; form <= 3; form++ {
		b := samples.Rich()
		_, rest, _ := image.Make(form, b)
		r, s := stands(t, form, b)
		for _, name := range []string{"sb1", "b1", "i", "r", "s", "ib", "rb", "ib11", "rb11", "xb1", "list", "rib1", "irb1", "Ib1", "Rb1"} {
			lay(t, r, name, []byte{9, 9})
		}
		loads(t, form, s, b, form, rest)
	}
}

// TestP15_1NoRows: without a file of rows there are none, as there are in one of no bytes.
func TestP15_1NoRows(t *testing.T) {
	for form := 1; form <= 3; form++ {
		r, s := stands(t, form, samples.Rich())
		raw, _ := s.Read("ib1")
		alone, _ := image.Parse(raw, "b1")
		lay(t, r, "rb1", nil)
		loads(t, "no bytes", s, alone, form, nil)
		r.Cut("rb1")
		loads(t, "no file", s, alone, form, nil)
	}
}

// TestP15_1Arg: no safe, and what is no box's ID, ahead of all that lies there.
func TestP15_1Arg(t *testing.T) {
	r, s := empty(t)
	wrong := []string{"", "a b", "a=b", "ä", "\x00", "b1\n", "*", "abcdefghijklm", strings.Repeat("b", 24), strings.Repeat("b", 25), strings.Repeat("b", 1000)}
	for _, id := range wrong {
		refused(t, id, s, id, api.ErrArg)
		for _, file := range []string{"i", "r"} {
			r.Write(file+id, []byte("MB1")) // if it may be
		}
		refused(t, id, s, id, api.ErrArg)
	}
	for _, id := range append(wrong, "b1") {
		if k, e := hold.Load(nil, id); e != api.ErrArg || k.Form != 0 || len(k.Rows) != 0 || !box.Same(k.Box, api.Box{}) {
			t.Errorf("no safe, %q: %v, error %d", id, k, e)
		}
		if l, e := hold.More(nil, id, []api.Row{high(2)}); e != api.ErrArg || len(l) != 0 {
			t.Errorf("no safe, %q: %v, error %d", id, l, e)
		}
	}
}

// TestP15_1None: no image, whatever else lies there; the longest ID is one.
func TestP15_1None(t *testing.T) {
	r, s := empty(t)
	for _, id := range []string{"b1", "a", "$-_./", "Z9", "abcdefghijkl"} {
		refused(t, id, s, id, api.ErrNone)
		lay(t, r, "r"+id, []byte{9})
		lay(t, r, "s"+id, []byte{9})
		refused(t, id, s, id, api.ErrNone)
	}
	refused(t, "another one's", s, "b2", api.ErrNone)
	put(t, s, 1, box.Empty("abcdefghijkl", 5))
	refused(t, "a part of it", s, "abcdefghijk", api.ErrNone)
	r.Fuse(0)
	r.Write("a", nil)
	refused(t, "without power", s, "abcdefghijkl", api.ErrNone)
	refused(t, "no ID, without power", s, "", api.ErrArg)
}

// TestP15_1Image: the image's error, ahead of any of the rows.
func TestP15_1Image(t *testing.T) {
	wrongRows := [][]byte{nil, {9}, {1}, row.Bytes([]api.Row{cut(77, 1)}), bytes.Repeat([]byte{7, 2}, 201)}
	for form := 1; form <= 3; form++ {
		r, s := stands(t, form, samples.Rich())
		raw, _ := s.Read("ib1")
		for what, c := range map[string]struct {
			raw []byte
			e   api.Errno
		}{
			"nothing": {nil, api.ErrForm}, "a mark alone": {raw[:3], api.ErrShort}, "no mark": {raw[1:], api.ErrForm}, "form 9": {[]byte("MB9"), api.ErrForm},
			"short": {raw[:len(raw)-1], api.ErrShort}, "long": {append(bytes.Clone(raw), 0), api.ErrForm}, "no number": {[]byte("MB3\xff\xff\xff\xff\xff\xff"), api.ErrForm},
		} {
			lay(t, r, "ib1", c.raw)
			for _, rows := range wrongRows {
				lay(t, r, "rb1", rows)
				refused(t, what, s, "b1", c.e)
			}
		}
	}
	raw, _, _ := image.Make(3, samples.Rich())
	r, s := empty(t)
	lay(t, r, "ib2", raw)
	refused(t, "another ID", s, "b2", api.ErrForm)
}

// TestP15_1Rows: the error of the rows' bytes, ahead of that of doing them; and that.
func TestP15_1Rows(t *testing.T) {
	none := row.Bytes([]api.Row{cut(77, 1)})
	many := bytes.Repeat(row.Bytes([]api.Row{high(2)}), api.MaxRows)
	for form := 1; form <= 3; form++ {
		r, s := stands(t, form, samples.Plain())
		for what, c := range map[string]struct {
			rows []byte
			e    api.Errno
		}{
			"no kind": {[]byte{9}, api.ErrForm}, "kind 0": {[]byte{0}, api.ErrForm}, "short": {[]byte{7}, api.ErrShort}, "a number too great": {[]byte{7, 0xc1, 0x84, 0x3d}, api.ErrForm},
			"a row too many": {append(bytes.Clone(many), 9), api.ErrFull},
			"no message":     {none, api.ErrNone}, "no message, and no kind": {append(bytes.Clone(none), 9), api.ErrForm}, "no message, and short": {append(bytes.Clone(none), 7), api.ErrShort},
			"no message, and a row too many": {append(bytes.Clone(none), many...), api.ErrFull},
			"a word twice":                   {row.Bytes([]api.Row{word("w0"), cut(77, 1)}), api.ErrTwice},
			"a word that is none":            {row.Bytes([]api.Row{word("a b"), cut(77, 1)}), api.ErrArg},
			"flags with a Mod of 0":          {row.Bytes([]api.Row{word("x"), flags(2, 0, 0)}), api.ErrArg},
			"High of 0":                      {row.Bytes([]api.Row{high(0)}), api.ErrArg},
			"a UID below Next":               {row.Bytes([]api.Row{add(api.Msg{UID: 29, Mod: 1, ID: "n"})}), api.ErrArg},
			"OK ahead of it":                 {row.Bytes([]api.Row{high(5), mod(2, 3), cut(2, 4), mod(2, 5), word("w0")}), api.ErrNone},
		} {
			lay(t, r, "rb1", c.rows)
			refused(t, what, s, "b1", c.e)
		}
		b := samples.Plain()
		b.High = 2
		lay(t, r, "rb1", many)
		loads(t, "just as many", s, b, form, slices.Repeat([]api.Row{high(2)}, api.MaxRows))
	}
	full := samples.Full()
	r, s := stands(t, 3, full)
	for _, x := range []api.Row{word("x"), add(api.Msg{UID: api.MaxUID, Mod: 1, ID: "n"})} {
		lay(t, r, "r"+full.ID, row.Bytes([]api.Row{x}))
		refused(t, x, s, full.ID, api.ErrFull)
	}
}

// TestP15_2Put: the image, the rest, and that nothing is lifted, in this order.
func TestP15_2Put(t *testing.T) {
	for form := 1; form <= 3; form++ {
		for _, b := range boxes() {
			raw, rest, _ := image.Make(form, b)
			want := []api.Change{{Name: "i" + b.ID, Data: raw}, {Name: "r" + b.ID, Data: row.Bytes(rest)}, {Name: "s" + b.ID, Cut: true}}
			l, e := hold.Put(form, b)
			if e != api.OK || !same(l, want) {
				t.Errorf("form %d of %v: %v, error %d", form, b, l, e)
			}
			r, s := empty(t)
			lay(t, r, "s"+b.ID, []byte{9})
			lay(t, r, "r"+b.ID, []byte{9})
			commit(t, s, l)
			if got, want := s.Names(), []string{"i" + b.ID, "r" + b.ID}; !slices.Equal(got, want) {
				t.Errorf("form %d of %v: files %v", form, b, got)
			}
			loads(t, "put", s, b, form, rest)
		}
	}
}

// TestP15_2PutBytes: the changes of an empty box, and of one with a High, byte for byte.
func TestP15_2PutBytes(t *testing.T) {
	for _, c := range []struct {
		form        int
		b           api.Box
		image, rest string
	}{
		{1, box.Empty("b1", 5), "4d4231" + "00000005" + "00000001" + "00000000" + "00000000", ""},
		{2, box.Empty("b1", 5), "4d4232" + "00000005" + "00000001" + "00000001" + "00000000" + "00000000", ""},
		{3, box.Empty("b1", 5), "4d4233" + "050101" + "026231" + "0000", ""},
		{1, api.Box{ID: "b1", Valid: 5, Next: 1, High: 300}, "4d4231" + "00000005" + "00000001" + "00000000" + "00000000", "07ac02"},
	} {
		l, e := hold.Put(c.form, c.b)
		if e != api.OK || len(l) != 3 || hex.EncodeToString(l[0].Data) != c.image || hex.EncodeToString(l[1].Data) != c.rest || len(l[2].Data) != 0 {
			t.Errorf("form %d of %v: %v, error %d", c.form, c.b, l, e)
		}
	}
}

// TestP15_2PutArg: no form, or no box, whatever box.May says of it.
func TestP15_2PutArg(t *testing.T) {
	never := func(what any, form int, b api.Box) {
		t.Helper()
		if l, e := hold.Put(form, b); len(l) != 0 || e != api.ErrArg {
			t.Errorf("%v: Put(%d): %v, error %d", what, form, l, e)
		}
	}
	for _, form := range []int{0, 4, -1, 257, 1<<32 + 1, math.MinInt, math.MaxInt} {
		never("a box", form, samples.Rich())
		never("nothing", form, api.Box{})
	}
	for form := 1; form <= 3; form++ {
		for i, change := range []func(b *api.Box){
			func(b *api.Box) { *b = api.Box{} },
			func(b *api.Box) { b.ID = "" },
			func(b *api.Box) { b.ID += "b" },
			func(b *api.Box) { b.Next = 0 },
			func(b *api.Box) { b.Words = samples.Words(65) },
			func(b *api.Box) { b.Msgs = make([]api.Msg, 61) },
			func(b *api.Box) { b.Msgs[59].Keys = []int{64} },
		} {
			b := samples.Full()
			change(&b)
			never(i, form, b)
		}
	}
}

// TestP15_2More: one change: the rows that were there, and the new ones behind them.
func TestP15_2More(t *testing.T) {
	for form := 1; form <= 3; form++ {
		b := samples.Rich()
		_, rest, _ := image.Make(form, b)
		r, s := stands(t, form, b)
		lay(t, r, "sb1", []byte{9})
		image, _ := s.Read("ib1")
		all := rest
		for i, rows := range [][]api.Row{
			nil, {word("x")}, {}, {flags(2, 10, 0, 35), cut(8, 11)},
			{name(9, "m"), mod(9, 3), add(api.Msg{UID: 70, Mod: 12, ID: "n", Keys: []int{0, 35}, Text: "hey"}), mod(70, 13)}, {high(1)},
		} {
			l, e := hold.More(s, "b1", rows)
			all = slices.Concat(all, rows)
			if want := []api.Change{{Name: "rb1", Data: row.Bytes(all)}}; e != api.OK || !same(l, want) {
				t.Fatalf("form %d, %d: %v, error %d, not %v", form, i, l, e, want)
			}
			loads(t, "not yet", s, b, form, rest)
			commit(t, s, l)
			b, _ = row.All(b, rows)
			rest = all
			loads(t, i, s, b, form, all)
		}
		if still, _ := s.Read("ib1"); !bytes.Equal(still, image) {
			t.Errorf("form %d: the image is another one", form)
		}
		if still, _ := s.Read("sb1"); !bytes.Equal(still, []byte{9}) {
			t.Errorf("form %d: what lift has done is %v", form, still)
		}
	}
}

// TestP15_2MoreNoFile: where there is no file of rows, no rows are a file without bytes.
func TestP15_2MoreNoFile(t *testing.T) {
	r, s := stands(t, 2, samples.Plain())
	r.Cut("rb1")
	for _, rows := range [][]api.Row{nil, {}, {high(2)}} {
		if l, e := hold.More(s, "b1", rows); e != api.OK || !same(l, []api.Change{{Name: "rb1", Data: row.Bytes(rows)}}) {
			t.Errorf("%v: %v, error %d", rows, l, e)
		}
	}
}

// TestP15_2MoreRows: the error of doing the rows to the box as its own rows left it, the first one.
func TestP15_2MoreRows(t *testing.T) {
	for form := 1; form <= 3; form++ {
		_, s := stands(t, form, samples.Rich(), word("x"), cut(8, 10), add(api.Msg{UID: 70, Mod: 11, ID: "n"}))
		for i, c := range []struct {
			rows []api.Row
			e    api.Errno
		}{
			{[]api.Row{cut(8, 12)}, api.ErrNone}, {[]api.Row{mod(77, 1), word("x")}, api.ErrNone}, {[]api.Row{cut(2, 3), cut(2, 3)}, api.ErrNone},
			{[]api.Row{word("x"), mod(77, 1)}, api.ErrTwice}, {[]api.Row{word("y"), word("y")}, api.ErrTwice},
			{[]api.Row{word("a b"), word("x")}, api.ErrArg}, {[]api.Row{{}}, api.ErrArg}, {[]api.Row{{Kind: 8}}, api.ErrArg}, {[]api.Row{high(0)}, api.ErrArg},
			{[]api.Row{high(api.MaxUID + 1)}, api.ErrArg}, {[]api.Row{flags(2, 12, 0, 36)}, api.ErrArg}, {[]api.Row{name(2, "")}, api.ErrArg},
			{[]api.Row{add(api.Msg{UID: 70, Mod: 11, ID: "n"})}, api.ErrArg}, {[]api.Row{add(api.Msg{UID: 71, Mod: 12, ID: "n", Text: strings.Repeat("t", 301)})}, api.ErrArg},
		} {
			refusedMore(t, i, s, "b1", c.rows, c.e)
		}
	}
	full := samples.Full()
	_, s := stands(t, 3, full)
	refusedMore(t, "a word", s, full.ID, []api.Row{word("x")}, api.ErrFull)
	refusedMore(t, "a message", s, full.ID, []api.Row{add(api.Msg{})}, api.ErrFull)
}

// TestP15_2MoreFull: as many rows as there may be, and one more; ahead of what no bytes say, but behind errors of doing them.
func TestP15_2MoreFull(t *testing.T) {
	odd := api.Row{Kind: api.RHigh, Mod: 9, UID: 1} // done, but no bytes say its UID
	for form := 1; form <= 3; form++ {
		for _, b := range []api.Box{box.Empty("b1", 5), samples.Rich(), samples.Full()} {
			_, rest, _ := image.Make(form, b)
			left := api.MaxRows - len(rest)
			_, s := stands(t, form, b)
			rows := slices.Repeat([]api.Row{high(9)}, left)
			refusedMore(t, "a row too many", s, b.ID, append(slices.Clone(rows), high(9)), api.ErrFull)
			refusedMore(t, "a row too many, odd", s, b.ID, append(slices.Clone(rows), odd), api.ErrFull)
			refusedMore(t, "a row too many, wrong", s, b.ID, append(slices.Clone(rows), mod(77, 1)), api.ErrNone)
			refusedMore(t, "just as many, odd", s, b.ID, append(slices.Clone(rows[1:]), odd), api.ErrArg)
			refusedMore(t, "many", s, b.ID, slices.Repeat([]api.Row{high(9)}, 5000), api.ErrFull)

			want, _ := row.All(b, rows)
			all := slices.Concat(rest, rows)
			more(t, s, b.ID, rows...)
			loads(t, "just as many", s, want, form, all)
			refusedMore(t, "one more", s, b.ID, []api.Row{high(9)}, api.ErrFull)
			refusedMore(t, "one more, odd", s, b.ID, []api.Row{odd}, api.ErrFull)
			more(t, s, b.ID)
			loads(t, "none more", s, want, form, all)
		}
	}
}

// TestP15_2MoreGreat: as many rows as there may be, each as long as may be, are a file that may be.
func TestP15_2MoreGreat(t *testing.T) {
	b := samples.Full()
	m := b.Msgs[0]
	b.Next, b.Msgs = m.UID-api.MaxRows/2, nil
	var rows []api.Row
	for i := range api.MaxRows / 2 {
		m.UID = b.Next + i
		rows = append(rows, add(m), cut(m.UID, m.Mod))
	}
	want, _ := row.All(b, rows)
	_, s := empty(t)
	put(t, s, 3, b)
	more(t, s, b.ID, rows...)
	loads(t, "great rows", s, want, 3, rows)
}

// TestP15_2MoreArg: rows with something in fields that their kind does not name are done, but no bytes say them.
func TestP15_2MoreArg(t *testing.T) {
	for form := 1; form <= 3; form++ {
		_, s := stands(t, form, samples.Rich())
		for i, change := range []func(l []api.Row){
			func(l []api.Row) { l[0].UID = 1 },
			func(l []api.Row) { l[0].Text = "x" },
			func(l []api.Row) { l[0].Msg.UID = 1 },
			func(l []api.Row) { l[1].Mod = 1 },
			func(l []api.Row) { l[1].Mod = -1 },
			func(l []api.Row) { l[2].Msg.ID = "n" },
			func(l []api.Row) { l[2].Msg.Mod = 10 },
			func(l []api.Row) { l[3].Msg.Keys = []int{0} },
			func(l []api.Row) { l[4].UID = 70 },
			func(l []api.Row) { l[4].Text = "n" },
		} {
			l := []api.Row{high(9), word("x"), flags(2, 10, 0, 35), mod(2, 11), add(api.Msg{UID: 70, Mod: 12, ID: "n"})}
			if _, e := hold.More(s, "b1", l); e != api.OK {
				t.Fatalf("error %d", e)
			}
			change(l)
			refusedMore(t, i, s, "b1", l, api.ErrArg)
		}
	}
	_, s := stands(t, 3, samples.Plain())
	refusedMore(t, "no rows ahead of it", s, "b1", []api.Row{{Kind: api.RHigh, Mod: 3, UID: 1}}, api.ErrArg)
}

// TestP15_2Gone: three Cuts, of whatever ID; behind them the box is none, and others are as they were.
func TestP15_2Gone(t *testing.T) {
	for _, id := range []string{"b1", "", "a b", "redo", strings.Repeat("b", 1000)} {
		want := []api.Change{{Name: "i" + id, Cut: true}, {Name: "r" + id, Cut: true}, {Name: "s" + id, Cut: true}}
		if l := hold.Gone(id); !same(l, want) {
			t.Errorf("%q: %v", id, l)
		}
	}
	for form := 1; form <= 3; form++ {
		r, s := stands(t, form, samples.Rich())
		put(t, s, form, box.Empty("b11", 6))
		lay(t, r, "sb1", []byte{9})
		for range 2 { // with files, and without
			commit(t, s, hold.Gone("b1"))
			refused(t, form, s, "b1", api.ErrNone)
			if got := s.Names(); !slices.Equal(got, []string{"ib11", "rb11"}) {
				t.Errorf("form %d: files %v", form, got)
			}
		}
		put(t, s, form, samples.Rich())
		_, rest, _ := image.Make(form, samples.Rich())
		loads(t, "come again", s, samples.Rich(), form, rest)
		loads(t, "another one", s, box.Empty("b11", 6), form, nil)
	}
}

// drawnRow is a row that may be done to b, most times.
func drawnRow(rng *rand.Rand, b api.Box) api.Row {
	uid := rng.Intn(b.Next + 1)
	if len(b.Msgs) > 0 && rng.Intn(10) > 0 {
		uid = b.Msgs[rng.Intn(len(b.Msgs))].UID
	}
	up := b.High + rng.Intn(3)
	switch rng.Intn(7) {
	case 0:
		return word("n" + strconv.Itoa(rng.Intn(40)))
	case 1:
		return name(uid, "m"+strconv.Itoa(rng.Intn(1000)))
	case 2:
		return mod(uid, 1+rng.Intn(up))
	case 3:
		return cut(uid, up)
	case 4:
		return high(rng.Intn(up + 2))
	case 5:
		return flags(uid, up, rng.Intn(32), rng.Intn(len(b.Words)+1))
	}
	return add(api.Msg{UID: b.Next + rng.Intn(3), Mod: up, Date: rng.Intn(9), ID: "d" + strconv.Itoa(rng.Intn(99)), Flags: rng.Intn(32), Text: strings.Repeat("t", rng.Intn(20))})
}

// drawnRows is some rows that may be done to b, most times.
func drawnRows(rng *rand.Rand, b api.Box) []api.Row {
	var rows []api.Row
	for range 1 + rng.Intn(3) {
		rows = append(rows, drawnRow(rng, b))
		if after, e := row.All(b, rows[len(rows)-1:]); e == api.OK {
			b = after
		}
	}
	return rows
}

// moreOf does rows to b, which is kept in a form, where there is room for them; it tells whether there was.
func moreOf(t *testing.T, s *safe.Safe, form int, b api.Box, rows []api.Row) bool {
	t.Helper()
	want, e := row.All(b, rows)
	if e != api.OK {
		refusedMore(t, rows, s, b.ID, rows, e)
		return true
	}
	k, _ := hold.Load(s, b.ID)
	if len(k.Rows)+len(rows) > api.MaxRows {
		refusedMore(t, rows, s, b.ID, rows, api.ErrFull)
		return false
	}
	more(t, s, b.ID, rows...)
	loads(t, rows, s, want, form, slices.Concat(k.Rows, rows))
	return true
}

// TestP15_3: in whatever form, a box is what its changes make of it; and in all forms the same ones are refused.
func TestP15_3(t *testing.T) {
	rng := rand.New(rand.NewSource(15))
	done, not, full := 0, 0, 0
	for range 15 {
		b := samples.Drawn(rng.Intn)
		var safes [4]*safe.Safe
		for form := 1; form <= 3; form++ {
			_, safes[form] = empty(t)
			put(t, safes[form], form, b)
		}
		for range 150 {
			rows := drawnRows(rng, b)
			for form := 1; form <= 3; form++ {
				if !moreOf(t, safes[form], form, b, rows) {
					full++
					put(t, safes[form], form, b)
					moreOf(t, safes[form], form, b, rows)
				}
			}
			after, e := row.All(b, rows)
			if e != api.OK {
				not++
				continue
			}
			done++
			b = after
		}
	}
	if done < 1000 || not < 300 || full < 15 {
		t.Errorf("%d lists of rows done, %d refused, no room for %d", done, not, full)
	}
}

// TestP15_3Forms: put into another form a box stays what it is, with what was changed; what lift had done is forgotten.
func TestP15_3Forms(t *testing.T) {
	rng := rand.New(rand.NewSource(16))
	r, s := empty(t)
	b := samples.Rich()
	put(t, s, 1, b)
	for i := range 200 {
		if x, e := row.Add(b, i, "", 8, []string{"w3", "x"}, "hey"); e == api.OK && i%2 == 0 {
			more(t, s, "b1", x...)
			b, _ = row.All(b, x)
		}
		if len(b.Msgs) > 5 {
			x, _ := row.Cut(b, []int{b.Msgs[2].UID, b.Msgs[0].UID})
			more(t, s, "b1", x...)
			b, _ = row.All(b, x)
		}
		lay(t, r, "sb1", []byte{9})
		form := 1 + rng.Intn(3)
		k, _ := hold.Load(s, "b1")
		put(t, s, form, k.Box)
		_, rest, _ := image.Make(form, b)
		loads(t, i, s, b, form, rest)
		if _, there := s.Read("sb1"); there {
			t.Fatal("what lift had done is there")
		}
	}
}

// TestP15_3Apart: what is done to a box is not done to another one, alike in name as it may be.
func TestP15_3Apart(t *testing.T) {
	_, s := empty(t)
	ids := []string{"b1", "b11", "b", "1", "rb1", "ib1", "sb1", "B1"}
	kept := map[string]api.Box{}
	for i, id := range ids {
		b := samples.Rich()
		b.ID, b.Valid = id, 1+i
		kept[id] = b
		put(t, s, 1+i%3, b)
	}
	for i := range 60 {
		id := ids[i*7%len(ids)]
		rows := []api.Row{high(i + 1), name(22, "n"+strconv.Itoa(i))}
		more(t, s, id, rows...)
		kept[id], _ = row.All(kept[id], rows)
		for _, id := range ids {
			if k, e := hold.Load(s, id); e != api.OK || !box.Same(k.Box, kept[id]) {
				t.Fatalf("%d: %s is %v, error %d", i, id, k, e)
			}
		}
	}
}

// TestPower: wherever the power goes while a box is put, changed, or goes, it is behind that what it was, or what it shall be.
func TestPower(t *testing.T) {
	rich, rows := samples.Rich(), []api.Row{cut(2, 10), word("x")}
	after, _ := row.All(rich, rows)
	one, _ := hold.Put(1, rich)
	three, _ := hold.Put(3, after)
	for fuse := range 12 {
		for picks := range 16 {
			_, s := empty(t)
			commit(t, s, one)
			l, e := hold.More(s, "b1", rows)
			if e != api.OK {
				t.Fatalf("error %d", e)
			}
			for step, c := range []struct {
				l         []api.Change
				was, will api.Box
			}{{l, rich, after}, {three, after, after}, {hold.Gone("b1"), after, api.Box{}}} {
				r := s.Rack()
				r.Fuse(fuse)
				e := s.Commit(c.l)
				r.Crash([]byte{byte(picks), byte(picks >> 1), byte(picks >> 2), byte(picks >> 3)})
				s = open(t, r)
				k, _ := hold.Load(s, "b1")
				if !box.Same(k.Box, c.will) && (e == api.OK || !box.Same(k.Box, c.was)) {
					t.Fatalf("Fuse(%d), picks %d, step %d: %v, error %d", fuse, picks, step, k, e)
				}
				commit(t, s, c.l)
				if k, _ := hold.Load(s, "b1"); !box.Same(k.Box, c.will) {
					t.Fatalf("Fuse(%d), picks %d, step %d, once more: %v", fuse, picks, step, k)
				}
			}
		}
	}
}

// TestKeeps: what is handed in stays, and what lies behind a length is not told (R2).
func TestKeeps(t *testing.T) {
	for form := 1; form <= 3; form++ {
		long := samples.Rich()
		long.Words = append(long.Words, "behind")
		was := box.Copy(long)
		b := long
		b.Words = long.Words[:35]
		_, s := empty(t)
		put(t, s, form, b)
		_, rest, _ := image.Make(form, b)
		loads(t, form, s, samples.Rich(), form, rest)
		if !box.Same(long, was) {
			t.Errorf("form %d: Put changed what it was given", form)
		}

		keys := []int{0, 35, 7}
		rows := []api.Row{word("x"), flags(2, 10, 0, keys[:2]...), add(api.Msg{UID: 70, Mod: 12, ID: "n", Keys: keys[:2]}), high(50)}
		before := slices.Clone(rows)
		more(t, s, "b1", rows[:3]...)
		want, _ := row.All(b, before[:3])
		loads(t, form, s, want, form, slices.Concat(rest, before[:3]))
		if !row.Same(rows, before) || !slices.Equal(keys, []int{0, 35, 7}) {
			t.Errorf("form %d: More changed what it was given", form)
		}
	}
}

// spoil writes over all that a list of changes holds.
func spoil(l []api.Change) {
	for i := range l {
		for j := range l[i].Data {
			l[i].Data[j] = 9
		}
		l[i].Name = "z"
	}
}

// TestKeepsOwn: what is told is the caller's own, and no two lists of it share memory (R2).
func TestKeepsOwn(t *testing.T) {
	for form := 1; form <= 3; form++ {
		rows := []api.Row{word("x"), flags(2, 10, 0, 1, 35), add(api.Msg{UID: 70, Mod: 12, ID: "n", Keys: []int{1, 35}})}
		b := samples.Rich()
		_, rest, _ := image.Make(form, b)
		all := slices.Concat(rest, rows)
		want, _ := row.All(b, rows)
		_, s := stands(t, form, b, rows...)
		k, _ := hold.Load(s, "b1")
		for i := range k.Rows {
			for j := range k.Rows[i].Msg.Keys {
				k.Rows[i].Msg.Keys[j] = 63
			}
			_ = append(k.Rows[i].Msg.Keys, 62)
		}
		if !box.Same(k.Box, want) {
			t.Errorf("form %d: the box shares memory with the rows", form)
		}
		k.Box.Words[0] = "other"
		for i := range k.Box.Msgs {
			_ = append(k.Box.Msgs[i].Keys, 62)
			for j := range k.Box.Msgs[i].Keys {
				k.Box.Msgs[i].Keys[j] = 61
			}
		}
		loads(t, "told", s, want, form, all)

		x, _ := hold.Put(form, b)
		y, _ := hold.Put(form, b)
		spoil(x)
		commit(t, s, y)
		loads(t, "put", s, b, form, rest)
		x, _ = hold.More(s, "b1", rows)
		y, _ = hold.More(s, "b1", rows)
		spoil(x)
		loads(t, "spoilt", s, b, form, rest)
		commit(t, s, y)
		loads(t, "more", s, want, form, all)
		spoil(hold.Gone("b1"))
		commit(t, s, hold.Gone("b1"))
		refused(t, "gone", s, "b1", api.ErrNone)
	}
}
