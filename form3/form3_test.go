// Package form3_test asks form3 by its face alone, promise by promise.
package form3_test

import (
	"bytes"
	"encoding/binary"
	"encoding/hex"
	"maps"
	"math"
	"math/rand"
	"slices"
	"strconv"
	"strings"
	"testing"

	"mailsack/api"
	"mailsack/box"
	"mailsack/form3"
)

const (
	head = "4d4233 05 09 06 026231" // Valid, Next, High, ID b1
	none = "00"                     // no words, or no messages
	over = " c1843d"                // MaxUID and one
)

// hexed tells the bytes that s is in base 16; blanks are left out.
func hexed(s string) []byte {
	b, err := hex.DecodeString(strings.ReplaceAll(s, " ", ""))
	if err != nil {
		panic(err)
	}
	return b
}

// words is n words, each another one, each of four bytes.
func words(n int) []string {
	var l []string
	for i := range n {
		l = append(l, "w"+strconv.Itoa(100+i))
	}
	return l
}

// places is the places from 0 to below n.
func places(n int) []int {
	var l []int
	for i := range n {
		l = append(l, i)
	}
	return l
}

// numbers puts numbers behind raw, told another way than pack goes.
func numbers(raw []byte, l ...int) []byte {
	for _, n := range l {
		raw = binary.AppendUvarint(raw, uint64(n))
	}
	return raw
}

// text puts s behind raw, likewise.
func text(raw []byte, s string) []byte {
	return append(numbers(raw, len(s)), s...)
}

// written is b in the form, told another way than form3 goes; the steps of b's UIDs and keys are not below 0.
func written(b api.Box) []byte {
	raw := text(numbers([]byte("MB3"), b.Valid, b.Next, b.High), b.ID)
	raw = numbers(raw, len(b.Words))
	for _, word := range b.Words {
		raw = text(raw, word)
	}
	raw = numbers(raw, len(b.Msgs))
	for i, m := range b.Msgs {
		uid := m.UID
		if i > 0 {
			uid -= b.Msgs[i-1].UID
		}
		raw = numbers(raw, uid, m.Mod, m.Date, m.Flags, len(m.Keys))
		for j, key := range m.Keys {
			if j == 0 {
				raw = numbers(raw, key+1)
			} else {
				raw = numbers(raw, key-m.Keys[j-1])
			}
		}
		raw = text(text(raw, m.ID), m.Text)
	}
	return raw
}

// full is a box with as much of everything as may be.
func full() api.Box {
	b := api.Box{ID: strings.Repeat("b", 12), Valid: 1000000, Next: 1000000, High: 1000000, Words: words(64)}
	for i := range b.Words {
		b.Words[i] += strings.Repeat("w", 20)
	}
	for i := range 60 {
		b.Msgs = append(b.Msgs, api.Msg{UID: 999940 + i, Mod: 1000000 - i, Date: 1000000, ID: strings.Repeat("i", 24), Flags: 31, Keys: places(64), Text: strings.Repeat("\xff", 300)})
	}
	return b
}

// examples is boxes, each with its form in base 16.
func examples() map[string]api.Box {
	return map[string]api.Box{
		"4d4233 05 01 01 026231 00 00":                                    {ID: "b1", Valid: 5, Next: 1, High: 1},
		"4d4233 c0843d c0843d c0843d 0141 00 00":                          {ID: "A", Valid: 1000000, Next: 1000000, High: 1000000},
		"4d4233 7f 8001 ac02 026231 01 04776f726b 00":                     {ID: "b1", Valid: 127, Next: 128, High: 300, Words: []string{"work"}},
		"4d4233 05 ff7f 808001 026231 00 01" + "fe7f 01 00 00 00 0171 00": {ID: "b1", Valid: 5, Next: 16383, High: 16384, Msgs: []api.Msg{{UID: 16382, Mod: 1, ID: "q"}}},
		"4d4233 05 c0843d 09 026231 03 0161 0162 0163 03" + "01 09 8202 1f 03 010101 0178 0300ff0a" + "ae02 01 c0843d 08 02 0102 0178 00" + "90823d 02 00 00 01 03 0465372d62 0161": {ID: "b1", Valid: 5, Next: 1000000, High: 9, Words: []string{"a", "b", "c"}, Msgs: []api.Msg{
			{UID: 1, Mod: 9, Date: 258, ID: "x", Flags: 31, Keys: []int{0, 1, 2}, Text: "\x00\xff\n"},
			{UID: 303, Mod: 1, Date: 1000000, ID: "x", Flags: 8, Keys: []int{0, 2}},
			{UID: 999999, Mod: 2, ID: "e7-b", Keys: []int{2}, Text: "a"},
		}},
	}
}

// is fails the test where Bytes tells other bytes or another Errno.
func is(t *testing.T, what any, b api.Box, want []byte, e api.Errno) {
	t.Helper()
	if got, ge := form3.Bytes(b); !bytes.Equal(got, want) || ge != e {
		t.Errorf("Bytes of %v: %x, error %d; not %x, %d", what, got, ge, want, e)
	}
}

// parsed fails the test where Parse tells another box or another Errno.
func parsed(t *testing.T, what any, raw []byte, id string, want api.Box, e api.Errno) {
	t.Helper()
	if got, ge := form3.Parse(raw, id); !box.Same(got, want) || ge != e {
		t.Errorf("Parse of %v: %v, error %d; not %v, %d", what, got, ge, want, e)
	}
}

// refused fails the test where Parse does not refuse the bytes that s is in base 16 with that Errno.
func refused(t *testing.T, s string, e api.Errno) {
	t.Helper()
	parsed(t, s, hexed(s), "b1", api.Box{}, e)
}

// TestP10_1Form: the form byte by byte, and back.
func TestP10_1Form(t *testing.T) {
	for s, b := range examples() {
		is(t, s, b, hexed(s), api.OK)
		parsed(t, s, hexed(s), b.ID, b, api.OK)
	}
	b := full()
	is(t, "a full box", b, written(b), api.OK)
	parsed(t, "a full box", written(b), b.ID, b, api.OK)
}

// TestP10_1AllIsKnown: names, changes and each of 64 keywords are written and read as they are.
func TestP10_1AllIsKnown(t *testing.T) {
	for _, n := range []int{1, 31, 32, 33, 63, 64} {
		for key := range n {
			b := api.Box{ID: "b1", Valid: 5, Next: 4, High: 6, Words: words(n), Msgs: []api.Msg{{UID: 3, Mod: 2, ID: "another", Keys: []int{key}, Text: "t"}}}
			is(t, []int{n, key}, b, written(b), api.OK)
			parsed(t, []int{n, key}, written(b), "b1", b, api.OK)
		}
	}
}

// TestP10_1Msg: a message alone, whatever it is, behind what b is.
func TestP10_1Msg(t *testing.T) {
	const most = "808080808020" // 2^40
	long := strings.Repeat("z", 1000)
	for i, x := range []struct {
		m    api.Msg
		last int
		want string
	}{
		{api.Msg{}, 0, "00 00 00 00 00 00 00"},
		{api.Msg{UID: 5, Mod: 1, Date: 2, ID: "q", Flags: 3, Keys: []int{4}, Text: "t"}, 3, "02 01 02 03 0105 0171 0174"},
		{api.Msg{UID: 300}, 0, "ac02 00 00 00 00 00 00"},
		{api.Msg{UID: 300}, 299, "01 00 00 00 00 00 00"},
		{api.Msg{UID: 3}, 3, "00 00 00 00 00 00 00"},
		{api.Msg{UID: 3}, 5, "00 00 00 00 00 00 00"},
		{api.Msg{UID: 3}, -5, "08 00 00 00 00 00 00"},
		{api.Msg{UID: -3}, -5, "02 00 00 00 00 00 00"},
		{api.Msg{UID: 1 << 40}, 0, most + "00 00 00 00 00 00"},
		{api.Msg{UID: 1<<40 + 9}, 10, "ffffffffff1f 00 00 00 00 00 00"},
		{api.Msg{UID: math.MaxInt}, 0, most + "00 00 00 00 00 00"},
		{api.Msg{UID: math.MaxInt}, -1, most + "00 00 00 00 00 00"},
		{api.Msg{UID: math.MaxInt}, math.MinInt, most + "00 00 00 00 00 00"},
		{api.Msg{UID: 0}, math.MinInt, most + "00 00 00 00 00 00"},
		{api.Msg{UID: -1}, math.MinInt, most + "00 00 00 00 00 00"},
		{api.Msg{UID: 1 << 62}, -1 << 62, most + "00 00 00 00 00 00"},
		{api.Msg{UID: math.MaxInt}, math.MaxInt - 7, "07 00 00 00 00 00 00"},
		{api.Msg{UID: math.MinInt + 7}, math.MinInt, "07 00 00 00 00 00 00"},
		{api.Msg{UID: math.MinInt}, math.MaxInt, "00 00 00 00 00 00 00"},
		{api.Msg{UID: math.MinInt}, 1, "00 00 00 00 00 00 00"},
		{api.Msg{UID: -2}, math.MaxInt, "00 00 00 00 00 00 00"},
		{api.Msg{Mod: -1, Date: math.MinInt, Flags: -8}, 0, "00 00 00 00 00 00 00"},
		{api.Msg{Mod: math.MaxInt, Date: 1000001, Flags: 1 << 41}, 0, "00" + most + "c1843d" + most + "00 00 00"},
		{api.Msg{Keys: []int{0, 1, 63, 64, 364}}, 0, "00 00 00 00 05 01013e01ac02 00 00"},
		{api.Msg{Keys: []int{7, 2, 2, -9, -1}}, 0, "00 00 00 00 05 0800000008 00 00"},
		{api.Msg{Keys: []int{-1, -2, 0}}, 0, "00 00 00 00 03 000002 00 00"},
		{api.Msg{Keys: []int{math.MaxInt, math.MinInt, math.MaxInt, math.MaxInt - 1}}, 0, "00 00 00 00 04" + most + "00" + most + "00" + "00 00"},
		{api.Msg{Keys: make([]int, 200)}, 0, "00 00 00 00 c801 01" + strings.Repeat("00", 199) + "00 00"},
		{api.Msg{ID: "a b\x00\xff", Text: long}, 0, "00 00 00 00 00 05 61206200ff e807" + strings.Repeat("7a", 1000)},
		{api.Msg{ID: long}, 0, "00 00 00 00 00 e807" + strings.Repeat("7a", 1000) + "00"},
	} {
		for _, ahead := range []string{"", "00", "4d4233", "ff80"} {
			if got := form3.Msg(hexed(ahead), x.m, x.last); !bytes.Equal(got, hexed(ahead+x.want)) {
				t.Errorf("Msg %d behind %s: %x", i, ahead, got)
			}
		}
	}
	if got := form3.Msg(nil, api.Msg{UID: 9}, 1); !bytes.Equal(got, hexed("08 00 00 00 00 00 00")) {
		t.Errorf("Msg behind nil: %x", got)
	}
}

// TestP10_1MsgOfBytes: the messages of Bytes are those of Msg, one behind the other.
func TestP10_1MsgOfBytes(t *testing.T) {
	for _, b := range append(slices.Collect(maps.Values(examples())), full()) {
		raw, _ := form3.Bytes(b)
		without := box.Copy(b)
		without.Msgs = nil
		got, _ := form3.Bytes(without)
		got[len(got)-1] = byte(len(b.Msgs))
		last := 0
		for _, m := range b.Msgs {
			got = form3.Msg(got, m, last)
			last = m.UID
		}
		if !bytes.Equal(got, raw) {
			t.Errorf("Bytes of %v: %x; by Msg: %x", b, raw, got)
		}
	}
}

// TestP10_1BytesArg: of a box that may not be there is ErrArg, whatever box.May says of it.
func TestP10_1BytesArg(t *testing.T) {
	is(t, "nothing", api.Box{}, nil, api.ErrArg)
	for i, change := range []func(b *api.Box){
		func(b *api.Box) { b.ID = "" },
		func(b *api.Box) { b.ID = "a b" },
		func(b *api.Box) { b.ID += "b" },
		func(b *api.Box) { b.Valid = 0 },
		func(b *api.Box) { b.Valid = 1000001 },
		func(b *api.Box) { b.Next = -1 },
		func(b *api.Box) { b.Next = 999999 },
		func(b *api.Box) { b.High = 0 },
		func(b *api.Box) { b.High = 999999 },
		func(b *api.Box) { b.Words = words(65) },
		func(b *api.Box) { b.Words[63] = b.Words[0] },
		func(b *api.Box) { b.Words[40] = "" },
		func(b *api.Box) { b.Words = b.Words[:63] },
		func(b *api.Box) { b.Msgs = append([]api.Msg{{UID: 1, Mod: 1, ID: "x"}}, b.Msgs...) },
		func(b *api.Box) { b.Msgs[0].UID = 999941 },
		func(b *api.Box) { b.Msgs[1].UID = 999940 },
		func(b *api.Box) { b.Msgs[5].Mod = 0 },
		func(b *api.Box) { b.Msgs[5].Mod = 1 << 40 },
		func(b *api.Box) { b.Msgs[5].Date = -1 },
		func(b *api.Box) { b.Msgs[5].ID = "" },
		func(b *api.Box) { b.Msgs[59].Flags = 32 },
		func(b *api.Box) { b.Msgs[59].Keys = []int{-1} },
		func(b *api.Box) { b.Msgs[59].Keys = []int{64} },
		func(b *api.Box) { b.Msgs[59].Keys = []int{1, 1} },
		func(b *api.Box) { b.Msgs[59].Text += "t" },
	} {
		b := full()
		change(&b)
		is(t, i, b, nil, api.ErrArg)
	}
}

// TestP10_1Begins: what does not begin with MB3 is ErrForm, however short it is.
func TestP10_1Begins(t *testing.T) {
	const rest = "05 01 01 026231 00 00"
	for _, s := range []string{"", "4d", "4d42", "00", "33424d", "4d4230", "4d4231", "4d4232", "4d4234", "4d4200", "6d6233", "4d62", "004d4233", "4d424d4233"} {
		refused(t, s, api.ErrForm)
		refused(t, s+rest, api.ErrForm)
	}
	parsed(t, "nil", nil, "b1", api.Box{}, api.ErrForm)
	refused(t, "4d4233", api.ErrShort)
	parsed(t, "an empty box", hexed("4d4233"+rest), "b1", box.Empty("b1", 5), api.OK)
}

// TestP10_1Short: of each form that ends too soon there is ErrShort; of each that ends too late ErrForm.
func TestP10_1Short(t *testing.T) {
	b := full()
	b.Msgs = b.Msgs[:2]
	forms := [][]byte{written(b)}
	for s := range examples() {
		forms = append(forms, hexed(s))
	}
	for _, raw := range forms {
		for n := 3; n < len(raw); n++ {
			for _, id := range []string{"b1", b.ID, "A", ""} {
				parsed(t, hex.EncodeToString(raw[:n]), raw[:n], id, api.Box{}, api.ErrShort)
			}
		}
	}
	for s, b := range examples() {
		for _, more := range []string{"00", "ff", "80", "0000", "4d4233", strings.Repeat("61", 1000)} {
			parsed(t, s+more, hexed(s+more), b.ID, api.Box{}, api.ErrForm)
		}
	}
}

// TestP10_1Over: what is more than it may be is ErrForm as soon as it is read, whatever lies behind it; as much as may be is not.
func TestP10_1Over(t *testing.T) {
	msg := head + none + "01"
	for _, x := range []struct{ ahead, most, more string }{
		{"4d4233", "c0843d", over},
		{"4d4233 05", "c0843d", over},
		{"4d4233 05 09", "c0843d", over},
		{"4d4233 05 09 06", "18", "19"},
		{head, "40", "41"},
		{head + "01", "18", "19"},
		{head + "02 0161", "18", "19"},
		{head + none, "3c", "3d"},
		{msg, "c0843d", over},
		{msg + "03", "c0843d", over},
		{msg + "03 06", "c0843d", over},
		{msg + "03 06 07", "c0843d", over},
		{msg + "03 06 07 08", "40", "41"},
		{msg + "03 06 07 08 01", "c0843d", over},
		{msg + "03 06 07 08 02 01", "c0843d", over},
		{msg + "03 06 07 08 00", "18", "19"},
		{msg + "03 06 07 08 00 0171", "ac02", "ad02"},
	} {
		refused(t, x.ahead+x.most, api.ErrShort)
		for _, more := range []string{x.more, "ffff7f", "80808008", "808080808020", "808080808040", "ffffffffff7f"} {
			for _, behind := range []string{"", "00", "80", "ffffffffffff", strings.Repeat("61", 400), strings.Repeat("00", 400)} {
				refused(t, x.ahead+more+behind, api.ErrForm)
			}
		}
	}
}

// TestP10_1Reader: the reader's errors, of each number and text of the form.
func TestP10_1Reader(t *testing.T) {
	msg := head + "01 0161 01"
	for _, ahead := range []string{
		"4d4233", "4d4233 05", "4d4233 05 09", "4d4233 05 09 06", head, head + "01", head + "01 0161",
		msg, msg + "03", msg + "03 06", msg + "03 06 07", msg + "03 06 07 08", msg + "03 06 07 08 01", msg + "03 06 07 08 01 01", msg + "03 06 07 08 00 0171",
	} {
		for _, s := range []string{"", "80", "ff", "ffffffffff"} {
			refused(t, ahead+s, api.ErrShort)
		}
		for _, s := range []string{"8000", "8500", "808000", "808080808000", "818080808020", "ffffffffffff", "808080808080"} {
			refused(t, ahead+s, api.ErrForm)
			refused(t, ahead+s+"00", api.ErrForm)
		}
	}
	for _, ahead := range []string{"4d4233 05 09 06", head + "01", msg + "03 06 07 08 00", msg + "03 06 07 08 00 0171"} {
		for _, s := range []string{"01", "02 61", "18" + strings.Repeat("61", 23)} {
			refused(t, ahead+s, api.ErrShort)
		}
	}
}

// TestP10_1FirstMet: of two errors the one that is met first from the first byte on; what may not be is told of whole bytes alone.
func TestP10_1FirstMet(t *testing.T) {
	msg := head + "01 0161 01"
	refused(t, "4d4233 8000"+over, api.ErrForm)
	refused(t, "4d4233"+over+"80", api.ErrForm)
	refused(t, head+"41"+"80", api.ErrForm)
	refused(t, head+"01"+"05 0000", api.ErrShort) // a word of five bytes, of which two are there
	refused(t, head+"01"+"30 0000", api.ErrForm)
	refused(t, head+none+"3d", api.ErrForm)
	refused(t, msg+"03 06 07 08 41 0101", api.ErrForm)
	refused(t, msg+"03 06 07 08 40 0101", api.ErrShort)
	refused(t, "4d4233 00 09 06 026231"+none, api.ErrShort)    // a Valid of 0
	refused(t, "4d4233 05 09 06 03622031"+none, api.ErrShort)  // an ID that is no atom
	refused(t, "4d4233 05 09 06 026232"+none, api.ErrShort)    // another box's ID
	refused(t, head+"02 0161 0161", api.ErrShort)              // a word twice
	refused(t, msg+"00 06 07 08 00 0171", api.ErrShort)        // a UID of 0
	refused(t, msg+"03 07 07 08 00 0171", api.ErrShort)        // a Mod above High
	refused(t, msg+"03 06 07 20 00 0171", api.ErrShort)        // a flag that is none
	refused(t, msg+"03 06 07 08 01 00 0171", api.ErrShort)     // a key below 0
	refused(t, msg+"03 06 07 08 01 c0843d 0171", api.ErrShort) // a key that is no place of the words
	long := head + none + "02" + "c0843d 06 07 08 00 0171 00" + "c0843d 06 07 08 00 0171"
	refused(t, long, api.ErrShort) // a UID above MaxUID, but of numbers that are not
	refused(t, long+"00", api.ErrForm)
	parsed(t, "no ID, and short", hexed(head+none), "", api.Box{}, api.ErrShort)
	parsed(t, "no ID, and too many words", hexed(head+"41"), "", api.Box{}, api.ErrForm)
}

// TestP10_1MayNot: bytes that are whole, but no box.
func TestP10_1MayNot(t *testing.T) {
	for s, e := range map[string]api.Errno{"00": api.ErrForm, "01": api.OK, "c0843d": api.OK, over: api.ErrForm} {
		for _, raw := range []string{s + "09 06", "05" + s + "06", "05 09" + s} {
			if _, got := form3.Parse(hexed("4d4233"+raw+"026231"+none+none), "b1"); got != e {
				t.Errorf("%s: error %d", raw, got)
			}
		}
	}
	for _, word := range []string{"00", "0120", "015c", "02c3bc", "055c5365656e"} {
		refused(t, head+"01"+word+none, api.ErrForm)
		refused(t, head+"02 0161"+word+none, api.ErrForm)
	}
	refused(t, head+"02 0161 0161"+none, api.ErrForm)
	parsed(t, "a and A", hexed(head+"02 0161 0141"+none), "b1", api.Box{ID: "b1", Valid: 5, Next: 9, High: 6, Words: []string{"a", "A"}}, api.OK)

	start := head + "02 0161 0162"
	const good = "03 06 07 08 02 0101 0171 0161"
	want := api.Box{ID: "b1", Valid: 5, Next: 9, High: 6, Words: []string{"a", "b"}, Msgs: []api.Msg{{UID: 3, Mod: 6, Date: 7, ID: "q", Flags: 8, Keys: []int{0, 1}, Text: "a"}}}
	parsed(t, "good", hexed(start+"01"+good), "b1", want, api.OK)
	for _, msg := range []string{
		"00 06 07 08 02 0101 0171 0161", "09 06 07 08 02 0101 0171 0161", "c0843d 06 07 08 02 0101 0171 0161",
		"03 00 07 08 02 0101 0171 0161", "03 07 07 08 02 0101 0171 0161", "03 c0843d 07 08 02 0101 0171 0161",
		"03 06 07 20 02 0101 0171 0161", "03 06 07 8802 02 0101 0171 0161", "03 06 07 c0843d 02 0101 0171 0161",
		"03 06 07 08 02 0001 0171 0161", "03 06 07 08 02 0100 0171 0161", "03 06 07 08 02 0102 0171 0161", "03 06 07 08 02 0201 0171 0161",
		"03 06 07 08 01 03 0171 0161", "03 06 07 08 01 c0843d 0171 0161", "03 06 07 08 03 010101 0171 0161",
		"03 06 07 08 02 0101 00 0161", "03 06 07 08 02 0101 0120 0161", "03 06 07 08 02 0101 025c71 0161",
	} {
		refused(t, start+"01"+msg, api.ErrForm)
	}
	refused(t, start+"02"+good+"00 06 07 08 00 0171 00", api.ErrForm)
	refused(t, start+"02"+good+"06 06 07 08 00 0171 00", api.ErrForm)
	want.Msgs = append(want.Msgs, api.Msg{UID: 8, Mod: 6, Date: 7, ID: "q", Flags: 8})
	parsed(t, "two", hexed(start+"02"+good+"05 06 07 08 00 0171 00"), "b1", want, api.OK)
}

// TestP10_1ParseID: the ID that stands there is the one that is handed in, and may be a box's.
func TestP10_1ParseID(t *testing.T) {
	ids := []string{"b", "b1", "B1", "b11", "A.b_c-d$/0", strings.Repeat("z", 11), strings.Repeat("z", 12)}
	for _, written := range ids {
		raw, _ := form3.Bytes(box.Empty(written, 5))
		for _, id := range append(ids, "", " ", "b1 ", "b1\x00", strings.Repeat("z", 13)) {
			if id == written {
				parsed(t, id, raw, id, box.Empty(id, 5), api.OK)
			} else {
				parsed(t, id, raw, id, api.Box{}, api.ErrForm)
			}
		}
	}
	for _, id := range []string{"", " ", "a b", "a\x00", `\Seen`, "\u00fc", strings.Repeat("z", 13), strings.Repeat("z", 24), strings.Repeat("z", 25)} {
		parsed(t, id, written(box.Empty(id, 5)), id, api.Box{}, api.ErrForm)
	}
}

// TestKeeps: what is handed in stays, and what lies behind it; what is told is the caller's own (R2).
func TestKeeps(t *testing.T) {
	b, again := full(), full()
	b.Words = append(b.Words, "behind")[:64]
	raw, _ := form3.Bytes(b)
	if !box.Same(b, again) || b.Words[:65][64] != "behind" {
		t.Error("Bytes changed what it was given")
	}
	second, _ := form3.Bytes(b)
	for i := range raw {
		raw[i] = 9
	}
	if !bytes.Equal(second, written(again)) {
		t.Error("two answers of Bytes share memory")
	}
	back := append(bytes.Clone(second), 7, 7)
	x, e := form3.Parse(back[:len(second)], b.ID)
	y, _ := form3.Parse(back[:len(second)], b.ID)
	if e != api.OK || !bytes.Equal(back, append(bytes.Clone(second), 7, 7)) {
		t.Error("Parse changed what it was given, or read behind it")
	}
	for i := range back {
		back[i] = 9
	}
	for i := range x.Msgs {
		_ = append(x.Msgs[i].Keys, 99)
		x.Msgs[i].Keys[0] = 31
	}
	x.Words[0] = "other"
	if !box.Same(y, again) {
		t.Error("two answers of Parse share memory, or one does with the bytes")
	}
	for i := range x.Msgs {
		x.Msgs[i].Keys[0] = 0
	}
	x.Words[0] = y.Words[0]
	if !box.Same(x, y) {
		t.Error("lists of one answer share memory")
	}
}

// TestKeepsMsg: Msg neither writes to b nor behind it, nor tells its memory; nor does it change the message (R2).
func TestKeepsMsg(t *testing.T) {
	b := append(make([]byte, 0, 100), 1, 2, 7, 7)
	m := api.Msg{UID: 9, ID: "q", Keys: append([]int{3, 5}, 77)[:2]}
	first := form3.Msg(b[:2], m, 1)
	second := form3.Msg(b[:2], m, 1)
	for i := range first {
		first[i] = 9
	}
	if !bytes.Equal(b, []byte{1, 2, 7, 7}) || !bytes.Equal(b[:50][4:], make([]byte, 46)) || !slices.Equal(m.Keys[:3], []int{3, 5, 77}) {
		t.Error("Msg changed what it was given")
	}
	if !bytes.Equal(second, hexed("0102 08 00 00 00 02 0402 0171 00")) {
		t.Errorf("two answers of Msg share memory: %x", second)
	}
}

// drawn draws a box that may be.
func drawn(r *rand.Rand) api.Box {
	b := api.Box{ID: "b" + strconv.Itoa(r.Intn(100)), Valid: 1 + r.Intn(1000000), High: 1 + r.Intn(1000000), Words: words(r.Intn(65))}
	r.Shuffle(len(b.Words), func(i, j int) { b.Words[i], b.Words[j] = b.Words[j], b.Words[i] })
	uid := 0
	for range r.Intn(61) {
		uid += 1 + r.Intn(1<<(1+r.Intn(13)))
		m := api.Msg{UID: uid, Mod: 1 + r.Intn(b.High), Date: r.Intn(1000001), ID: "n" + strconv.Itoa(r.Intn(1000)), Flags: r.Intn(32)}
		for key := range b.Words {
			if r.Intn(4) == 0 {
				m.Keys = append(m.Keys, key)
			}
		}
		text := make([]byte, r.Intn(301))
		r.Read(text)
		m.Text = string(text)
		b.Msgs = append(b.Msgs, m)
	}
	b.Next = uid + 1 + r.Intn(1000)
	return b
}

// TestP10_2Back: what is written is read as it was, whole.
func TestP10_2Back(t *testing.T) {
	r := rand.New(rand.NewSource(8))
	for range 300 {
		b := drawn(r)
		raw, e := form3.Bytes(b)
		if e != api.OK || !bytes.Equal(raw, written(b)) {
			t.Fatalf("Bytes of %v: %x, error %d", b, raw, e)
		}
		parsed(t, "what was written", raw, b.ID, b, api.OK)
	}
}

// TestP10_2OneForm: bytes that are other than a form by one are no form, or that of another box, which is written just so.
func TestP10_2OneForm(t *testing.T) {
	read := 0
	for s, b := range examples() {
		for i := range hexed(s) {
			for c := range 256 {
				raw := hexed(s)
				raw[i] = byte(c)
				x, e := form3.Parse(raw, b.ID)
				if e != api.OK {
					parsed(t, hex.EncodeToString(raw), raw, b.ID, api.Box{}, e)
					continue
				}
				read++
				is(t, "what was read", x, raw, api.OK)
			}
		}
	}
	if read < 1000 {
		t.Errorf("%d of them are forms", read)
	}
}

// TestP10_2Drawn: of bytes that are other than a form by a few, what is read is a box that is written so; else there is none.
func TestP10_2Drawn(t *testing.T) {
	r := rand.New(rand.NewSource(10))
	met := map[api.Errno]int{}
	for range 10000 {
		b := drawn(r)
		b.Msgs = b.Msgs[:min(len(b.Msgs), r.Intn(4))]
		raw := written(b)
		for range r.Intn(3) {
			raw[r.Intn(len(raw))] ^= 1 << r.Intn(8)
		}
		if r.Intn(5) == 0 {
			raw = raw[:r.Intn(len(raw)+1)]
		}
		x, e := form3.Parse(raw, b.ID)
		met[e]++
		if e != api.OK {
			parsed(t, hex.EncodeToString(raw), raw, b.ID, api.Box{}, e)
			continue
		}
		if box.May(x) != api.OK {
			t.Fatalf("%x: no box: %v", raw, x)
		}
		is(t, "what was read", x, raw, api.OK)
	}
	if len(met) != 3 || met[api.OK] < 1000 || met[api.ErrForm] < 1000 || met[api.ErrShort] < 1000 {
		t.Errorf("errors met: %v", met)
	}
}
