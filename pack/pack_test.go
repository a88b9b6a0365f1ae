// Package pack_test asks pack by its face alone, promise by promise.
package pack_test

import (
	"bytes"
	"encoding/binary"
	"encoding/hex"
	"fmt"
	"math"
	"math/rand"
	"strings"
	"testing"

	"mailsack/api"
	"mailsack/pack"
)

// top is the greatest number that is written as it is.
const top = 1 << 40

// hexed tells the bytes that s is in base 16; blanks are left out.
func hexed(s string) []byte {
	b, err := hex.DecodeString(strings.ReplaceAll(s, " ", ""))
	if err != nil {
		panic(err)
	}
	return b
}

// is fails the test where got is not the bytes that want is in base 16.
func is(t *testing.T, name any, got []byte, want string) {
	t.Helper()
	if !bytes.Equal(got, hexed(want)) {
		t.Errorf("%v: %x, not %s", name, got, want)
	}
}

// numbers is some of all sizes, and those around where a byte more is needed.
func numbers() []int {
	l := []int{0, 1, 2, 100, 300, api.MaxUID - 1, api.MaxUID, api.MaxUID + 1, top - 1, top}
	for bits := 1; bits < 40; bits++ {
		l = append(l, 1<<bits-1, 1<<bits, 1<<bits+1)
	}
	r := rand.New(rand.NewSource(1))
	for range 5000 {
		l = append(l, r.Intn(1<<(1+r.Intn(40))))
	}
	return l
}

// TestP5_1Number: seven bits a byte, the lowest ones first, as few bytes as it goes.
func TestP5_1Number(t *testing.T) {
	for _, c := range []struct {
		n    int
		want string
	}{
		{0, "00"}, {1, "01"}, {5, "05"}, {126, "7e"}, {127, "7f"},
		{128, "80 01"}, {129, "81 01"}, {255, "ff 01"}, {256, "80 02"}, {300, "ac 02"},
		{1<<14 - 1, "ff 7f"}, {1 << 14, "80 80 01"}, {1<<14 + 1, "81 80 01"},
		{1000000, "c0 84 3d"},
		{1<<21 - 1, "ff ff 7f"}, {1 << 21, "80 80 80 01"},
		{1<<28 - 1, "ff ff ff 7f"}, {1 << 28, "80 80 80 80 01"},
		{1<<35 - 1, "ff ff ff ff 7f"}, {1 << 35, "80 80 80 80 80 01"},
		{1 << 31, "80 80 80 80 08"}, {1 << 32, "80 80 80 80 10"},
		{top - 1, "ff ff ff ff ff 1f"}, {top, "80 80 80 80 80 20"},
	} {
		is(t, c.n, pack.Number(nil, c.n), c.want)
		is(t, c.n, pack.Number([]byte{0, 0x80, 0xff}, c.n), "0080ff"+c.want)
	}
	for _, n := range numbers() {
		if got := pack.Number([]byte{7}, n); !bytes.Equal(got, binary.AppendUvarint([]byte{7}, uint64(n))) {
			t.Errorf("Number of %d: %x", n, got)
		}
	}
}

// TestP5_1NumberBeyond: below 0 it is 0, above 2^40 it is that.
func TestP5_1NumberBeyond(t *testing.T) {
	for _, n := range []int{-1, -5, -127, -128, -top, -1 << 32, math.MinInt, math.MinInt + 1} {
		is(t, n, pack.Number([]byte{9}, n), "09 00")
	}
	for _, n := range []int{top + 1, top + 127, top + 128, 2 * top, 1 << 42, 1<<42 - 1, 1 << 49, 1 << 62, math.MaxInt - 1, math.MaxInt} {
		is(t, n, pack.Number([]byte{9}, n), "09 80 80 80 80 80 20")
	}
}

// TestP5_1Text: how many bytes, and these as they are.
func TestP5_1Text(t *testing.T) {
	for _, c := range []struct{ s, want string }{
		{"", "00"}, {"a", "01 61"}, {"ab", "02 61 62"}, {"b1", "02 62 31"},
		{"\x00", "01 00"}, {"\x00\xff\x80", "03 00 ff 80"}, {"\u00fc", "02 c3 bc"}, {"a\r\nb", "04 61 0d 0a 62"},
	} {
		is(t, c.s, pack.Text(nil, c.s), c.want)
		is(t, c.s, pack.Text([]byte{1, 0x80}, c.s), "01 80"+c.want)
	}
	is(t, "two", pack.Text(pack.Text(nil, "ab"), ""), "02 61 62 00")
	for _, n := range []int{1, 2, 126, 127, 128, 129, 255, 256, 300, 301, 1000, 1<<14 - 1, 1 << 14, 200000, 1 << 21} {
		s := strings.Repeat("\xfe", n-1) + "a"
		want := append(binary.AppendUvarint([]byte{3, 4}, uint64(n)), s...)
		if got := pack.Text([]byte{3, 4}, s); !bytes.Equal(got, want) {
			t.Errorf("Text of %d bytes: %d bytes", n, len(got))
		}
	}
}

// TestP5_1Fixed: n modulo 2^32 in four bytes, the highest one first; below 0: 0.
func TestP5_1Fixed(t *testing.T) {
	for _, c := range []struct {
		n    int
		want string
	}{
		{0, "00000000"}, {1, "00000001"}, {5, "00000005"}, {255, "000000ff"}, {256, "00000100"}, {258, "00000102"},
		{1000000, "000f4240"}, {0x01020304, "01020304"}, {0x7fffffff, "7fffffff"}, {0x80000000, "80000000"}, {0xfffefdfc, "fffefdfc"},
		{1<<32 - 1, "ffffffff"}, {1 << 32, "00000000"}, {1<<32 + 7, "00000007"}, {1<<40 + 0x01020304, "01020304"}, {1 << 62, "00000000"}, {math.MaxInt, "ffffffff"},
		{-1, "00000000"}, {-258, "00000000"}, {-1<<32 + 7, "00000000"}, {math.MinInt, "00000000"}, {math.MinInt + 1, "00000000"},
	} {
		is(t, c.n, pack.Fixed(nil, c.n), c.want)
		is(t, c.n, pack.Fixed([]byte{9, 0}, c.n), "0900"+c.want)
	}
	for _, n := range numbers() {
		if got := pack.Fixed([]byte{7}, n); !bytes.Equal(got, binary.BigEndian.AppendUint32([]byte{7}, uint32(n))) {
			t.Errorf("Fixed of %d: %x", n, got)
		}
	}
}

// reads fails the test where the calls of do (n: Number, t: Text of most, f: Fixed, b: Byte) on the bytes raw do not tell want, and leave left bytes and err.
func reads(t *testing.T, raw, do string, most int, want string, left int, err api.Errno) {
	t.Helper()
	r := pack.NewReader(hexed(raw))
	if r == nil || r.Err() != api.OK || r.Left() != len(hexed(raw)) {
		t.Fatalf("%q: %d bytes and error %d at the start", raw, r.Left(), r.Err())
	}
	got := ""
	for _, c := range do {
		got += told(r, c, most)
	}
	if got != want || r.Left() != left || r.Err() != err {
		t.Errorf("%q, %s: %q, %d left, error %d; not %q, %d left, error %d", raw, do, got, r.Left(), r.Err(), want, left, err)
	}
}

// told tells what one call does, with a blank behind it.
func told(r *pack.Reader, call rune, most int) string {
	switch call {
	case 'n':
		return fmt.Sprint(r.Number(), " ")
	case 't':
		return r.Text(most) + " "
	case 'f':
		return fmt.Sprint(r.Fixed(), " ")
	}
	return fmt.Sprint(r.Byte(), " ")
}

// TestP5_2Number: what Number writes is read, and no byte more.
func TestP5_2Number(t *testing.T) {
	reads(t, "00", "n", 0, "0 ", 0, api.OK)
	reads(t, "05", "n", 0, "5 ", 0, api.OK)
	reads(t, "7f", "n", 0, "127 ", 0, api.OK)
	reads(t, "8001", "n", 0, "128 ", 0, api.OK)
	reads(t, "ac02", "n", 0, "300 ", 0, api.OK)
	reads(t, "ac02 ff", "n", 0, "300 ", 1, api.OK)
	reads(t, "00 00 01 8001", "nnnn", 0, "0 0 1 128 ", 0, api.OK)
	reads(t, "ffff7f 00", "n", 0, "2097151 ", 1, api.OK)
	reads(t, "8080808001 80", "n", 0, "268435456 ", 1, api.OK)
	reads(t, "ffffffffff1f", "n", 0, "1099511627775 ", 0, api.OK)
	reads(t, "808080808020", "n", 0, "1099511627776 ", 0, api.OK)
	reads(t, "808080808020 80", "n", 0, "1099511627776 ", 1, api.OK)
	reads(t, "808080808001", "n", 0, "34359738368 ", 0, api.OK)
}

// TestP5_2NumberShort: bytes lack, of a number of up to six bytes.
func TestP5_2NumberShort(t *testing.T) {
	reads(t, "", "n", 0, "0 ", 0, api.ErrShort)
	for n := 1; n < 6; n++ {
		reads(t, strings.Repeat("80", n), "n", 0, "0 ", n, api.ErrShort)
		reads(t, strings.Repeat("ff", n), "n", 0, "0 ", n, api.ErrShort)
		reads(t, "07"+strings.Repeat("ac", n), "nn", 0, "7 0 ", n, api.ErrShort)
	}
}

// TestP5_2NumberForm: more than six bytes, more than need be, or above 2^40.
func TestP5_2NumberForm(t *testing.T) {
	for n := 6; n < 12; n++ {
		reads(t, strings.Repeat("80", n), "n", 0, "0 ", n, api.ErrForm)
		reads(t, strings.Repeat("ff", n), "n", 0, "0 ", n, api.ErrForm)
		reads(t, strings.Repeat("81", n)+"01", "n", 0, "0 ", n+1, api.ErrForm)
	}
	for n := 1; n < 6; n++ {
		reads(t, strings.Repeat("80", n)+"00", "n", 0, "0 ", n+1, api.ErrForm)
		reads(t, strings.Repeat("ff", n)+"00 01", "n", 0, "0 ", n+2, api.ErrForm)
	}
	for _, raw := range []string{"8080808080a0", "8080808080a0 00", "8080808080a0 01", "808080808081 00", "818080808020", "808081808020", "808080808120", "808080808021", "808080808030", "808080808040", "80808080807f", "ffffffffff20", "ffffffffff7f"} {
		reads(t, raw, "n", 0, "0 ", len(hexed(raw)), api.ErrForm)
		reads(t, raw+"05", "n", 0, "0 ", len(hexed(raw))+1, api.ErrForm)
	}
}

// TestP5_2Text: a text of up to most bytes.
func TestP5_2Text(t *testing.T) {
	reads(t, "00", "t", 5, " ", 0, api.OK)
	reads(t, "00", "t", 0, " ", 0, api.OK)
	reads(t, "00 07", "t", 0, " ", 1, api.OK)
	reads(t, "026162", "t", 5, "ab ", 0, api.OK)
	reads(t, "026162", "t", 2, "ab ", 0, api.OK)
	reads(t, "026162", "t", math.MaxInt, "ab ", 0, api.OK)
	reads(t, "03616203", "t", 5, "ab\x03 ", 0, api.OK)
	reads(t, "056162636465", "t", 5, "abcde ", 0, api.OK)
	reads(t, "056162636465 06", "tn", 5, "abcde 6 ", 0, api.OK)
	reads(t, "0200ff 01fe 00", "ttt", 2, "\x00\xff \xfe  ", 0, api.OK)
	long := strings.Repeat("61", 300)
	reads(t, "ac02"+long+"62", "t", 300, strings.Repeat("a", 300)+" ", 1, api.OK)
}

// TestP5_2TextWrong: Number's errors, then more than most bytes, then bytes that lack; the number is not read either.
func TestP5_2TextWrong(t *testing.T) {
	reads(t, "", "t", 5, " ", 0, api.ErrShort)
	reads(t, "80", "t", 5, " ", 1, api.ErrShort)
	reads(t, "80", "t", -1, " ", 1, api.ErrShort)
	reads(t, "8000", "t", 5, " ", 2, api.ErrForm)
	reads(t, "82006162", "t", 5, " ", 4, api.ErrForm)
	reads(t, "80808080808001", "t", math.MaxInt, " ", 7, api.ErrForm)
	reads(t, "818080808020", "t", math.MaxInt, " ", 6, api.ErrForm)
	reads(t, "0561626364", "t", 5, " ", 5, api.ErrShort)
	reads(t, "01", "t", 5, " ", 1, api.ErrShort)
	reads(t, "066162636465", "t", 5, " ", 6, api.ErrForm)
	reads(t, "06616263646566", "t", 5, " ", 7, api.ErrForm)
	reads(t, "06", "t", 5, " ", 1, api.ErrForm)
	reads(t, "0161", "t", 0, " ", 2, api.ErrForm)
	reads(t, "00", "t", -1, " ", 1, api.ErrForm)
	reads(t, "0161", "t", -1, " ", 2, api.ErrForm)
	reads(t, "00", "t", math.MinInt, " ", 1, api.ErrForm)
	reads(t, "808080808020 61", "t", 300, " ", 7, api.ErrForm)
	reads(t, "808080808020 61", "t", top, " ", 7, api.ErrShort)
	reads(t, "ffffffffff1f 61", "t", math.MaxInt, " ", 7, api.ErrShort)
	reads(t, "ac02"+strings.Repeat("61", 299), "t", 300, " ", 301, api.ErrShort)
	reads(t, "ac02"+strings.Repeat("61", 300), "t", 299, " ", 302, api.ErrForm)
}

// TestP5_2FixedAndByte: four bytes, the highest one first, and one.
func TestP5_2FixedAndByte(t *testing.T) {
	reads(t, "00000102", "f", 0, "258 ", 0, api.OK)
	reads(t, "01020304 05", "f", 0, "16909060 ", 1, api.OK)
	reads(t, "80000000", "f", 0, "2147483648 ", 0, api.OK)
	reads(t, "ffffffff07", "fb", 0, "4294967295 7 ", 0, api.OK)
	reads(t, "00 00000000 ff", "bfb", 0, "0 0 255 ", 0, api.OK)
	reads(t, "80 7f 00", "bbb", 0, "128 127 0 ", 0, api.OK)
	for n := range 4 {
		reads(t, strings.Repeat("01", n), "f", 0, "0 ", n, api.ErrShort)
		reads(t, "ff"+strings.Repeat("01", n), "bf", 0, "255 0 ", n, api.ErrShort)
	}
	reads(t, "", "b", 0, "0 ", 0, api.ErrShort)
	reads(t, "07", "bb", 0, "7 0 ", 0, api.ErrShort)
}

// TestP5_2Behind: behind an error nothing is read any more, and the error stays.
func TestP5_2Behind(t *testing.T) {
	all := "00 01 61 00000001 05"
	reads(t, "8000"+all, "nntfb", 5, "0 0  0 0 ", 10, api.ErrForm)
	reads(t, "0461"+all, "tntfb", 3, " 0  0 0 ", 10, api.ErrForm)
	reads(t, "7f61"+all, "tnntfb", 200, " 0 0  0 0 ", 10, api.ErrShort)
	reads(t, "010203", "fbnt", 5, "0 0 0  ", 3, api.ErrShort)
	reads(t, "", "bntfb", 5, "0 0  0 0 ", 0, api.ErrShort)
	reads(t, "01 8000", "bnf", 5, "1 0 0 ", 2, api.ErrForm)     // Fixed, too, would have met one
	reads(t, "05 01 02", "nfnt", 5, "5 0 0  ", 2, api.ErrShort) // 1 would be read by Number
	reads(t, "80", "nt", -1, "0  ", 1, api.ErrShort)
}

// TestP5_2Nothing: a reader that is none, and readers of nothing.
func TestP5_2Nothing(t *testing.T) {
	var none *pack.Reader
	for range 2 {
		if none.Number() != 0 || none.Text(5) != "" || none.Fixed() != 0 || none.Byte() != 0 || none.Left() != 0 || none.Err() != api.ErrArg {
			t.Error("a nil reader")
		}
	}
	for _, r := range []*pack.Reader{pack.NewReader(nil), pack.NewReader([]byte{}), new(pack.Reader)} {
		if r.Left() != 0 || r.Err() != api.OK {
			t.Error("a reader of nothing")
		}
		if r.Number() != 0 || r.Left() != 0 || r.Err() != api.ErrShort {
			t.Error("a reader of nothing, read")
		}
	}
}

// TestKeeps: what is handed in stays, and what lies behind it; what is told is the caller's own (R2).
func TestKeeps(t *testing.T) {
	for name, write := range map[string]func([]byte) []byte{
		"Number": func(b []byte) []byte { return pack.Number(b, 300) },
		"Text":   func(b []byte) []byte { return pack.Text(b, "x") },
		"Fixed":  func(b []byte) []byte { return pack.Fixed(b, 300) },
	} {
		back := []byte{1, 2, 3, 3, 3, 3, 3, 3, 3}
		one, two := write(back[:2]), write(back[:2])
		want := bytes.Clone(two)
		for i := range one {
			one[i] = 99
		}
		_ = append(one, 99)
		if !bytes.Equal(back, []byte{1, 2, 3, 3, 3, 3, 3, 3, 3}) || !bytes.Equal(two, want) {
			t.Errorf("%s: %v, %v", name, back, two)
		}
		further := write(two)
		two[0] = 98
		if further[0] != 1 || !bytes.Equal(write(further[:2]), want) {
			t.Errorf("%s: %v", name, further)
		}
	}
}

// TestKeepsReader: a reader reads what it was given as it was then, and no byte behind it; it goes its own way.
func TestKeepsReader(t *testing.T) {
	raw := []byte{1, 2, 0x61, 0x62, 7, 7}
	one, two := pack.NewReader(raw[:5]), pack.NewReader(raw[:5])
	for i := range raw {
		raw[i] = 9
	}
	if one.Number() != 1 || one.Text(2) != "ab" || two.Left() != 5 || two.Number() != 1 || one.Byte() != 7 || one.Byte() != 0 || one.Err() != api.ErrShort || two.Err() != api.OK {
		t.Error("two readers of one row of bytes")
	}
	if !bytes.Equal(raw, bytes.Repeat([]byte{9}, 6)) {
		t.Errorf("what was handed in: %v", raw)
	}
}

// TestP5_2Drawn: rows of bytes of all kinds, held against a reading of numbers by another way.
func TestP5_2Drawn(t *testing.T) {
	r := rand.New(rand.NewSource(2))
	parts := []byte{0, 1, 2, 0x1f, 0x20, 0x21, 0x7f, 0x80, 0x80, 0x80, 0x80, 0x81, 0xff, 0xa0}
	var met [4]int
	for range 100000 {
		raw := make([]byte, r.Intn(9))
		for i := range raw {
			raw[i] = parts[r.Intn(len(parts))]
		}
		want, size, err := expected(raw)
		met[err]++
		reader := pack.NewReader(raw)
		if got := reader.Number(); got != want || reader.Err() != err || reader.Left() != len(raw)-size {
			t.Fatalf("%x: %d, %d left, error %d; not %d, %d, %d", raw, got, reader.Left(), reader.Err(), want, len(raw)-size, err)
		}
		if err == api.OK && !bytes.Equal(pack.Number(nil, want), raw[:size]) {
			t.Fatalf("%x: %d has two forms", raw, want)
		}
	}
	if met[api.OK] < 1000 || met[api.ErrShort] < 1000 || met[api.ErrForm] < 1000 {
		t.Errorf("errors met: %v", met)
	}
}

// expected tells what Number reads at the beginning of raw, how many bytes that is, and its error.
func expected(raw []byte) (int, int, api.Errno) {
	last := 0
	for last < len(raw) && raw[last] >= 0x80 {
		last++
	}
	if last >= 6 {
		return 0, 0, api.ErrForm
	}
	if last == len(raw) {
		return 0, 0, api.ErrShort
	}
	n, size := binary.Uvarint(raw)
	if n > top || len(binary.AppendUvarint(nil, n)) != size {
		return 0, 0, api.ErrForm
	}
	return int(n), size, api.OK
}

// TestP5_3Numbers: each number is read as it was, and no byte is left.
func TestP5_3Numbers(t *testing.T) {
	for _, n := range numbers() {
		r := pack.NewReader(pack.Fixed(pack.Number(nil, n), n))
		if got := r.Number(); got != n || r.Left() != 4 {
			t.Errorf("Number of %d: %d, %d left", n, got, r.Left())
		}
		if got := r.Fixed(); got != n%(1<<32) || r.Left() != 0 || r.Err() != api.OK {
			t.Errorf("Fixed of %d: %d, %d left, error %d", n, got, r.Left(), r.Err())
		}
	}
}

// entry is something that is written, by one call or another.
type entry struct {
	call byte
	n    int
	s    string
}

// drawn draws some entries.
func drawn(r *rand.Rand) []entry {
	var l []entry
	for range r.Intn(30) {
		e := entry{call: "ntfb"[r.Intn(4)]}
		switch e.call {
		case 'n':
			e.n = r.Intn(1<<(1+r.Intn(40)) + 1)
		case 't':
			raw := make([]byte, r.Intn(400))
			r.Read(raw)
			e.s = string(raw)
		case 'f':
			e.n = r.Intn(1 << (1 + r.Intn(32)))
		case 'b':
			e.n = r.Intn(256)
		}
		l = append(l, e)
	}
	return l
}

// write puts e behind b.
func (e entry) write(b []byte) []byte {
	switch e.call {
	case 'n':
		return pack.Number(b, e.n)
	case 't':
		return pack.Text(b, e.s)
	case 'f':
		return pack.Fixed(b, e.n)
	}
	return append(b, byte(e.n))
}

// read reads what e was, of that call.
func (e entry) read(r *pack.Reader) entry {
	switch e.call {
	case 'n':
		e.n = r.Number()
	case 't':
		e.s = r.Text(len(e.s))
	case 'f':
		e.n = r.Fixed()
	case 'b':
		e.n = r.Byte()
	}
	return e
}

// TestP5_3Row: what is written one behind the other is read so; of bytes that are cut off, up to there.
func TestP5_3Row(t *testing.T) {
	r := rand.New(rand.NewSource(3))
	for range 3000 {
		l := drawn(r)
		var b []byte
		var ends []int
		for _, e := range l {
			b = e.write(b)
			ends = append(ends, len(b))
		}
		reader := pack.NewReader(b)
		for i, e := range l {
			if got := e.read(reader); got != e || reader.Left() != len(b)-ends[i] || reader.Err() != api.OK {
				t.Fatalf("%d of %v: %v, %d left, error %d", i, l, got, reader.Left(), reader.Err())
			}
		}
		if len(b) == 0 {
			continue
		}
		cut := r.Intn(len(b))
		reader = pack.NewReader(b[:cut])
		for i, e := range l {
			got := e.read(reader)
			if ends[i] <= cut && got != e || ends[i] > cut && (got != entry{call: e.call} || reader.Err() != api.ErrShort) {
				t.Fatalf("%d of %v, %d bytes: %v, error %d", i, l, cut, got, reader.Err())
			}
		}
	}
}
