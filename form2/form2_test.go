// Package form2_test asks form2 by its face alone, promise by promise.
package form2_test

import (
	"bytes"
	"encoding/binary"
	"encoding/hex"
	"math/rand"
	"slices"
	"strconv"
	"strings"
	"testing"

	"mailsack/api"
	"mailsack/box"
	"mailsack/form2"
)

const (
	head = "4d4232 00000005 00000009 00000006" // Valid, Next, High
	none = "00000000"
)

// hexed tells the bytes that s is in base 16; blanks are left out.
func hexed(s string) []byte {
	b, err := hex.DecodeString(strings.ReplaceAll(s, " ", ""))
	if err != nil {
		panic(err)
	}
	return b
}

// words is n words, each another one, each of four bytes.
func words(n int) []string {
	var l []string
	for i := range n {
		l = append(l, "w"+strconv.Itoa(100+i))
	}
	return l
}

// places is the places from 0 to below n.
func places(n int) []int {
	var l []int
	for i := range n {
		l = append(l, i)
	}
	return l
}

// known is b as the form says it alone, told another way than form2 goes.
func known(b api.Box, id string) api.Box {
	b = box.Copy(b)
	b.ID = id
	if len(b.Words) > 32 {
		b.Words = b.Words[:32]
	}
	for i := range b.Msgs {
		m := &b.Msgs[i]
		m.ID = "e" + strconv.Itoa(m.UID) + "-" + id
		m.Keys = slices.DeleteFunc(m.Keys, func(key int) bool { return key > 31 })
	}
	return b
}

// written is b in the form, told another way than form2 goes.
func written(b api.Box) []byte {
	fixed := func(raw []byte, l ...int) []byte {
		for _, n := range l {
			raw = binary.BigEndian.AppendUint32(raw, uint32(n))
		}
		return raw
	}
	words := b.Words[:min(32, len(b.Words))]
	raw := fixed([]byte("MB2"), b.Valid, b.Next, b.High, len(words))
	for _, word := range words {
		raw = append(append(raw, byte(len(word))), word...)
	}
	raw = fixed(raw, len(b.Msgs))
	for _, m := range b.Msgs {
		raw = append(fixed(raw, m.UID, m.Mod, m.Date), byte(m.Flags))
		var bits [4]byte
		for _, key := range m.Keys {
			if key < 32 {
				bits[3-key/8] |= 1 << (key % 8)
			}
		}
		raw = append(fixed(append(raw, bits[:]...), len(m.Text)), m.Text...)
	}
	return raw
}

// full is a box with as much of everything as may be.
func full() api.Box {
	b := api.Box{ID: strings.Repeat("b", 12), Valid: 1000000, Next: 1000000, High: 1000000, Words: words(64)}
	for i := range b.Words {
		b.Words[i] += strings.Repeat("w", 20)
	}
	for i := range 60 {
		b.Msgs = append(b.Msgs, api.Msg{UID: 999940 + i, Mod: 1000000 - i, Date: 1000000, ID: strings.Repeat("i", 24), Flags: 31, Keys: places(64), Text: strings.Repeat("\xff", 300)})
	}
	return b
}

// examples is boxes, each with its form in base 16.
func examples() map[string]api.Box {
	return map[string]api.Box{
		"4d4232 00000005 00000001 00000001 00000000 00000000":                                                     {ID: "b1", Valid: 5, Next: 1, High: 1},
		"4d4232 000f4240 000f4240 000f4240 00000000 00000000":                                                     {ID: "b1", Valid: 1000000, Next: 1000000, High: 1000000},
		"4d4232 00000001 00000102 00000304 00000001 04 776f726b 00000000":                                         {ID: "b1", Valid: 1, Next: 258, High: 772, Words: []string{"work"}},
		"4d4232 00000005 00000009 00000004 00000000 00000001" + "00000008 00000003 00000000 00 00000000 00000000": {ID: "b1", Valid: 5, Next: 9, High: 4, Msgs: []api.Msg{{UID: 8, Mod: 3, ID: "q"}}},
		"4d4232 00000005 000f4240 000f4240 00000002 0161 0162 00000002" + "00000001 000f4240 00000102 1f 00000003 00000003 00ff0a" + "000f423f 00000001 000f4240 08 00000002 00000001 61": {ID: "b1", Valid: 5, Next: 1000000, High: 1000000, Words: []string{"a", "b"}, Msgs: []api.Msg{{UID: 1, Mod: 1000000, Date: 258, ID: "x", Flags: 31, Keys: []int{0, 1}, Text: "\x00\xff\n"}, {UID: 999999, Mod: 1, Date: 1000000, ID: "x", Flags: 8, Keys: []int{1}, Text: "a"}}},
	}
}

// is fails the test where Bytes tells other bytes or another Errno.
func is(t *testing.T, what any, b api.Box, want []byte, e api.Errno) {
	t.Helper()
	if got, ge := form2.Bytes(b); !bytes.Equal(got, want) || ge != e {
		t.Errorf("Bytes of %v: %x, error %d; not %x, %d", what, got, ge, want, e)
	}
}

// parsed fails the test where Parse tells another box or another Errno.
func parsed(t *testing.T, what any, raw []byte, id string, want api.Box, e api.Errno) {
	t.Helper()
	if got, ge := form2.Parse(raw, id); !box.Same(got, want) || ge != e {
		t.Errorf("Parse of %v: %v, error %d; not %v, %d", what, got, ge, want, e)
	}
}

// refused fails the test where Parse does not refuse the bytes that s is in base 16 with that Errno.
func refused(t *testing.T, s string, e api.Errno) {
	t.Helper()
	parsed(t, s, hexed(s), "b1", api.Box{}, e)
}

// TestP9_1Form: the form byte by byte, and back.
func TestP9_1Form(t *testing.T) {
	for s, b := range examples() {
		is(t, s, b, hexed(s), api.OK)
		parsed(t, s, hexed(s), "b1", known(b, "b1"), api.OK)
	}
	b := full()
	is(t, "a full box", b, written(b), api.OK)
	parsed(t, "a full box", written(b), b.ID, known(b, b.ID), api.OK)
}

// TestP9_1OldWords: of 32 words all are written, of more the first 32; of keys, too, those below 32.
func TestP9_1OldWords(t *testing.T) {
	for _, n := range []int{0, 1, 31, 32, 33, 34, 63, 64} {
		for key := range n {
			b := api.Box{ID: "b1", Valid: 5, Next: 4, High: 6, Words: words(n), Msgs: []api.Msg{{UID: 3, Mod: 2, ID: "e3-b1", Keys: []int{key}, Text: "t"}}}
			bits := uint32(0)
			if key < 32 {
				bits = 1 << key
			}
			few := min(n, 32)
			raw, e := form2.Bytes(b)
			if e != api.OK || len(raw) != 19+5*few+4+22 || int(raw[18]) != few {
				t.Fatalf("%d words: %x, error %d", n, raw, e)
			}
			if got := binary.BigEndian.Uint32(raw[len(raw)-9:]); got != bits {
				t.Errorf("%d words, key %d: bits %x", n, key, got)
			}
			parsed(t, []int{n, key}, raw, "b1", known(b, "b1"), api.OK)
		}
	}
}

// TestP9_1Changes: High and Mods are written and read as they are, to their ends; Bytes refuses what may not be.
func TestP9_1Changes(t *testing.T) {
	for _, x := range []struct {
		high, mod int
		e         api.Errno
	}{
		{1, 1, api.OK}, {2, 1, api.OK}, {2, 2, api.OK}, {258, 257, api.OK},
		{1000000, 1, api.OK}, {1000000, 999999, api.OK}, {1000000, 1000000, api.OK},
		{0, 0, api.ErrForm}, {0, 1, api.ErrForm}, {1, 0, api.ErrForm}, {1, 2, api.ErrForm}, {999999, 1000000, api.ErrForm},
		{1000001, 1, api.ErrForm}, {1000001, 1000001, api.ErrForm}, {1000000, 1000001, api.ErrForm},
		{1 << 31, 1, api.ErrForm}, {1<<32 - 1, 1, api.ErrForm}, {1000000, 1 << 31, api.ErrForm}, {1000000, 1<<32 - 1, api.ErrForm},
	} {
		b := api.Box{ID: "b1", Valid: 5, Next: 9, High: x.high, Msgs: []api.Msg{{UID: 3, Mod: x.mod, Date: 7, ID: "e3-b1"}}}
		if x.e == api.OK {
			is(t, x, b, written(b), api.OK)
			parsed(t, x, written(b), "b1", b, api.OK)
			continue
		}
		is(t, x, b, nil, api.ErrArg)
		parsed(t, x, written(b), "b1", api.Box{}, x.e)
	}
	// Mods need not rise, nor be apart; High may be above them all.
	b := api.Box{ID: "b1", Valid: 5, Next: 9, High: 8, Msgs: []api.Msg{{UID: 3, Mod: 7, ID: "e3-b1"}, {UID: 4, Mod: 2, ID: "e4-b1"}, {UID: 5, Mod: 2, ID: "e5-b1"}}}
	is(t, "Mods that fall", b, written(b), api.OK)
	parsed(t, "Mods that fall", written(b), "b1", b, api.OK)
}

// TestP9_1BytesArg: of a box that may not be there is ErrArg, whatever box.May says of it.
func TestP9_1BytesArg(t *testing.T) {
	is(t, "nothing", api.Box{}, nil, api.ErrArg)
	for i, change := range []func(b *api.Box){
		func(b *api.Box) { b.ID = "" },
		func(b *api.Box) { b.ID = "a b" },
		func(b *api.Box) { b.ID += "b" },
		func(b *api.Box) { b.Valid = 0 },
		func(b *api.Box) { b.Valid = 1000001 },
		func(b *api.Box) { b.Valid = 1<<32 + 5 },
		func(b *api.Box) { b.Next = -1 },
		func(b *api.Box) { b.Next = 999999 },
		func(b *api.Box) { b.High = 0 },
		func(b *api.Box) { b.High = 999999 },
		func(b *api.Box) { b.High = 1<<32 + 1000000 },
		func(b *api.Box) { b.Words = words(65) },
		func(b *api.Box) { b.Words[63] = b.Words[0] },
		func(b *api.Box) { b.Words[40] = "" },
		func(b *api.Box) { b.Words = b.Words[:63] },
		func(b *api.Box) { b.Msgs = append([]api.Msg{{UID: 1, Mod: 1, ID: "x"}}, b.Msgs...) },
		func(b *api.Box) { b.Msgs[0].UID = 999941 },
		func(b *api.Box) { b.Msgs[5].Mod = 0 },
		func(b *api.Box) { b.Msgs[5].Mod = 1<<32 + 1 },
		func(b *api.Box) { b.Msgs[5].Date = -1 },
		func(b *api.Box) { b.Msgs[5].ID = "" },
		func(b *api.Box) { b.Msgs[59].Flags = 32 },
		func(b *api.Box) { b.Msgs[59].Keys = []int{-1} },
		func(b *api.Box) { b.Msgs[59].Keys = []int{64} },
		func(b *api.Box) { b.Msgs[59].Keys = []int{1, 1} },
		func(b *api.Box) { b.Msgs[59].Text += "t" },
	} {
		b := full()
		change(&b)
		is(t, i, b, nil, api.ErrArg)
	}
}

// TestP9_1Begins: what does not begin with MB2 is ErrForm, however short it is.
func TestP9_1Begins(t *testing.T) {
	rest := "00000005 00000001 00000001" + none + none
	for _, s := range []string{"", "4d", "4d42", "00", "32424d", "4d4230", "4d4231", "4d4233", "4d4200", "6d6232", "4d62", "004d4232", "4d 004232", "4d424d4232"} {
		refused(t, s, api.ErrForm)
		refused(t, s+rest, api.ErrForm)
	}
	parsed(t, "nil", nil, "b1", api.Box{}, api.ErrForm)
	refused(t, "4d4232", api.ErrShort)
	parsed(t, "an empty box", hexed("4d4232"+rest), "b1", box.Empty("b1", 5), api.OK)
}

// TestP9_1NotTheFirst: the first form is not the second one, be it but for the mark.
func TestP9_1NotTheFirst(t *testing.T) {
	refused(t, "4d4231 00000005 00000001"+none+none, api.ErrForm)
	refused(t, "4d4232 00000005 00000001"+none+none, api.ErrShort)
}

// TestP9_1Short: of each form that ends too soon there is ErrShort; of each that ends too late ErrForm.
func TestP9_1Short(t *testing.T) {
	b := full()
	b.Msgs = b.Msgs[:2]
	forms := [][]byte{written(b)}
	for s := range examples() {
		forms = append(forms, hexed(s))
	}
	for _, raw := range forms {
		for n := 3; n < len(raw); n++ {
			if got, e := form2.Parse(raw[:n], "b1"); e != api.ErrShort || !box.Same(got, api.Box{}) {
				t.Fatalf("%d bytes of %x: %v, error %d", n, raw, got, e)
			}
		}
		for _, more := range []string{"00", "ff", none, "4d4232", strings.Repeat("61", 1000)} {
			longer := append(bytes.Clone(raw), hexed(more)...)
			parsed(t, more, longer, "b1", api.Box{}, api.ErrForm)
		}
	}
}

// TestP9_1Over: more than 32 words, 24 bytes of a word, 60 messages, 300 bytes of a text: ErrForm as soon as it is read.
func TestP9_1Over(t *testing.T) {
	msg := head + none + "00000001" + "00000003 00000006 00000007 08 00000000"
	for _, n := range []string{"00000065", "0000012d", "0000012e", "0000ffff", "000f4240", "7fffffff", "80000000", "ffffffff", "01000000"} {
		for _, behind := range []string{"", "00", none, none + none, "80", strings.Repeat("00", 1000)} {
			refused(t, head+n+behind, api.ErrForm)
			refused(t, head+none+n+behind, api.ErrForm)
			if n != "00000065" {
				refused(t, msg+n+behind, api.ErrForm)
			}
		}
	}
	refused(t, head+"00000020", api.ErrShort)
	refused(t, head+"00000021", api.ErrForm)
	refused(t, head+none+"0000003c", api.ErrShort)
	refused(t, head+none+"0000003d", api.ErrForm)
	refused(t, msg+"0000012c", api.ErrShort)
	refused(t, msg+"0000012d", api.ErrForm)
	refused(t, head+"00000001"+"18", api.ErrShort)
	refused(t, head+"00000001"+"19", api.ErrForm)
	refused(t, head+"00000001"+"19"+strings.Repeat("61", 25)+none, api.ErrForm)
	b := api.Box{ID: "b1", Valid: 5, Next: 9, High: 6, Words: []string{strings.Repeat("a", 24)}, Msgs: []api.Msg{{UID: 3, Mod: 6, Date: 7, ID: "e3-b1", Flags: 8, Text: strings.Repeat("t", 300)}}}
	parsed(t, "just so many", written(b), "b1", b, api.OK)
}

// TestP9_1Words: the reader's errors of a word, and words that may not be.
func TestP9_1Words(t *testing.T) {
	refused(t, head+"00000001"+"80", api.ErrShort)
	refused(t, head+"00000001"+"8000"+none, api.ErrForm)
	refused(t, head+"00000001"+"818080808080", api.ErrForm)
	refused(t, head+"00000001"+"8100"+"61"+none, api.ErrForm)
	refused(t, head+"00000001"+"0261", api.ErrShort)
	for _, word := range []string{"00", "0120", "015c", "02c3bc", "0261 00", "05 5c5365656e"} {
		refused(t, head+"00000001"+word+none, api.ErrForm)
		refused(t, head+"00000002"+"0161"+word+none, api.ErrForm)
		refused(t, head+"00000001"+word, api.ErrShort) // no box is there yet that may not be
	}
	refused(t, head+"00000002"+"0161"+"0161"+none, api.ErrForm)
	refused(t, head+"00000003"+"0161"+"0162"+"0161"+none, api.ErrForm)
	parsed(t, "a and A", hexed(head+"00000002"+"0161"+"0141"+none), "b1", api.Box{ID: "b1", Valid: 5, Next: 9, High: 6, Words: []string{"a", "A"}}, api.OK)
}

// TestP9_1FirstMet: of two errors the one that is met first from the first byte on.
func TestP9_1FirstMet(t *testing.T) {
	refused(t, head+"00000021"+"8000", api.ErrForm)
	refused(t, head+"00000001"+"03"+"6161", api.ErrShort)
	refused(t, head+"00000001"+"30"+"6161", api.ErrForm)
	refused(t, head+"00000002"+"0161"+"05"+"0000", api.ErrShort) // bytes that would be too great a count behind it
	refused(t, head+none+"0000003d"+"00", api.ErrForm)
	refused(t, head+none+"00000002"+"00000003 00000006 00000007 08 00000000 0000012d 61", api.ErrForm)
	refused(t, head+none+"00000002"+"00000003 00000006 00000007 08 00000000 00000001 61", api.ErrShort)
	refused(t, "4d4232 00000000 00000009 00000006"+none, api.ErrShort) // Valid is 0, but what is no box yet cannot be wrong
	refused(t, "4d4232 00000005 00000009 00000000"+none, api.ErrShort) // High likewise
	refused(t, head+none+"00000001"+"00000003 00000007 00000007 08 00000000", api.ErrShort)
	parsed(t, "no ID, and short", hexed(head+none), "", api.Box{}, api.ErrShort)
	parsed(t, "no ID, and too many words", hexed(head+"00000021"), "", api.Box{}, api.ErrForm)
}

// TestP9_1MayNot: bytes that are whole, but no box.
func TestP9_1MayNot(t *testing.T) {
	numbers := map[string]api.Errno{none: api.ErrForm, "00000001": api.OK, "000f4240": api.OK, "000f4241": api.ErrForm, "80000001": api.ErrForm, "ffffffff": api.ErrForm}
	for s, e := range numbers {
		for _, raw := range []string{s + "00000009 00000006", "00000005" + s + "00000006", "00000005 00000009" + s} {
			if _, got := form2.Parse(hexed("4d4232"+raw+none+none), "b1"); got != e {
				t.Errorf("%s: error %d", raw, got)
			}
		}
	}
	start := head + "00000002 0161 0162"
	good := "00000003 00000006 00000007 08 00000003 00000001 61"
	want := api.Box{ID: "b1", Valid: 5, Next: 9, High: 6, Words: []string{"a", "b"}, Msgs: []api.Msg{{UID: 3, Mod: 6, Date: 7, ID: "e3-b1", Flags: 8, Keys: []int{0, 1}, Text: "a"}}}
	parsed(t, "good", hexed(start+"00000001"+good), "b1", want, api.OK)
	for _, msg := range []string{
		"00000000 00000006 00000007 08 00000003 00000001 61",
		"00000009 00000006 00000007 08 00000003 00000001 61",
		"ffffffff 00000006 00000007 08 00000003 00000001 61",
		"00000003 00000000 00000007 08 00000003 00000001 61",
		"00000003 00000007 00000007 08 00000003 00000001 61",
		"00000003 ffffffff 00000007 08 00000003 00000001 61",
		"00000003 00000006 000f4241 08 00000003 00000001 61",
		"00000003 00000006 ffffffff 08 00000003 00000001 61",
		"00000003 00000006 00000007 20 00000003 00000001 61",
		"00000003 00000006 00000007 88 00000003 00000001 61",
		"00000003 00000006 00000007 ff 00000003 00000001 61",
		"00000003 00000006 00000007 08 00000004 00000001 61",
		"00000003 00000006 00000007 08 80000000 00000001 61",
		"00000003 00000006 00000007 08 ffffffff 00000001 61",
	} {
		refused(t, start+"00000001"+msg, api.ErrForm)
	}
	refused(t, start+"00000002"+good+good, api.ErrForm)
	refused(t, start+"00000002"+good+"00000002 00000006 00000007 08 00000003 00000000", api.ErrForm)
}

// TestP9_1ParseID: the box has the ID that is handed in, and so have its messages' names.
func TestP9_1ParseID(t *testing.T) {
	b := full()
	for _, id := range []string{"b", "b1", "A.b_c-d$/0", strings.Repeat("z", 12)} {
		parsed(t, id, written(b), id, known(b, id), api.OK)
	}
	for _, id := range []string{"", " ", "a b", "a\x00", `\Seen`, "\u00fc", strings.Repeat("z", 13), strings.Repeat("z", 1000)} {
		parsed(t, id, written(b), id, api.Box{}, api.ErrForm)
		parsed(t, id, hexed(head+none+none), id, api.Box{}, api.ErrForm)
	}
}

// TestKeeps: what is handed in stays, and what lies behind it; what is told is the caller's own (R2).
func TestKeeps(t *testing.T) {
	b, again := full(), full()
	b.Words = append(b.Words, "behind")[:64]
	raw, _ := form2.Bytes(b)
	if !box.Same(b, again) || b.Words[:65][64] != "behind" {
		t.Error("Bytes changed what it was given")
	}
	second, _ := form2.Bytes(b)
	for i := range raw {
		raw[i] = 9
	}
	if !bytes.Equal(second, written(again)) {
		t.Error("two answers of Bytes share memory")
	}
	back := append(bytes.Clone(second), 7, 7)
	x, e := form2.Parse(back[:len(second)], "b1")
	y, _ := form2.Parse(back[:len(second)], "b1")
	if e != api.OK || !bytes.Equal(back, append(bytes.Clone(second), 7, 7)) {
		t.Error("Parse changed what it was given, or read behind it")
	}
	for i := range back {
		back[i] = 9
	}
	x.Msgs[0].Keys[0] = 31
	_ = append(x.Msgs[0].Keys, 99)
	x.Words[0] = "other"
	if !box.Same(y, known(again, "b1")) {
		t.Error("two answers of Parse share memory, or one does with the bytes")
	}
	x.Words[0], x.Msgs[0].Keys[0] = y.Words[0], 0
	if !box.Same(x, y) {
		t.Error("lists of one answer share memory")
	}
}

// drawn draws a box that may be.
func drawn(r *rand.Rand) api.Box {
	b := api.Box{ID: "b" + strconv.Itoa(r.Intn(100)), Valid: 1 + r.Intn(1000000), High: 1 + r.Intn(1000000), Words: words(r.Intn(65))}
	r.Shuffle(len(b.Words), func(i, j int) { b.Words[i], b.Words[j] = b.Words[j], b.Words[i] })
	uid := 0
	for range r.Intn(61) {
		uid += 1 + r.Intn(1<<(1+r.Intn(13)))
		m := api.Msg{UID: uid, Mod: 1 + r.Intn(b.High), Date: r.Intn(1000001), ID: "n" + strconv.Itoa(r.Intn(1000)), Flags: r.Intn(32)}
		for key := range b.Words {
			if r.Intn(4) == 0 {
				m.Keys = append(m.Keys, key)
			}
		}
		text := make([]byte, r.Intn(301))
		r.Read(text)
		m.Text = string(text)
		b.Msgs = append(b.Msgs, m)
	}
	b.Next = uid + 1 + r.Intn(1000)
	return b
}

// TestP9_2Back: what is written is read as it was, but for what the form does not know; and written again it is the same bytes.
func TestP9_2Back(t *testing.T) {
	r := rand.New(rand.NewSource(8))
	for range 300 {
		b := drawn(r)
		raw, e := form2.Bytes(b)
		if e != api.OK || !bytes.Equal(raw, written(b)) {
			t.Fatalf("Bytes of %v: %x, error %d", b, raw, e)
		}
		x, e := form2.Parse(raw, b.ID)
		if e != api.OK || !box.Same(x, known(b, b.ID)) {
			t.Fatalf("Parse of %v: %v, error %d", b, x, e)
		}
		is(t, "what was read", x, raw, api.OK)
	}
}

// TestP9_2Known: a box of which the form knows all is read as it was, whole.
func TestP9_2Known(t *testing.T) {
	r := rand.New(rand.NewSource(9))
	for range 100 {
		b := drawn(r)
		b = known(b, b.ID)
		raw, e := form2.Bytes(b)
		if e != api.OK {
			t.Fatalf("Bytes of %v: error %d", b, e)
		}
		parsed(t, "what was written", raw, b.ID, b, api.OK)
	}
}

// TestP9_1Drawn: of bytes that are other than a form by a few, what is read is a box that is written so; else there is none.
func TestP9_1Drawn(t *testing.T) {
	r := rand.New(rand.NewSource(10))
	met := map[api.Errno]int{}
	for range 10000 {
		b := drawn(r)
		b.Msgs = b.Msgs[:min(len(b.Msgs), r.Intn(4))]
		raw := written(b)
		for range r.Intn(3) {
			raw[r.Intn(len(raw))] ^= 1 << r.Intn(8)
		}
		if r.Intn(5) == 0 {
			raw = raw[:r.Intn(len(raw)+1)]
		}
		x, e := form2.Parse(raw, b.ID)
		met[e]++
		if e != api.OK {
			parsed(t, hex.EncodeToString(raw), raw, b.ID, api.Box{}, e)
			continue
		}
		if box.May(x) != api.OK {
			t.Fatalf("%x: no box: %v", raw, x)
		}
		is(t, "what was read", x, raw, api.OK)
	}
	if len(met) != 3 || met[api.OK] < 1000 || met[api.ErrForm] < 1000 || met[api.ErrShort] < 1000 {
		t.Errorf("errors met: %v", met)
	}
}
