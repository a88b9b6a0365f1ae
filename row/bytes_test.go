package row_test

import (
	"bytes"
	"encoding/hex"
	"math/rand"
	"slices"
	"strings"
	"testing"

	"mailsack/api"
	"mailsack/row"
)

// hexed tells the bytes that s is in base 16; blanks are left out.
func hexed(s string) []byte {
	b, err := hex.DecodeString(strings.ReplaceAll(s, " ", ""))
	if err != nil {
		panic(err)
	}
	return b
}

// example is a row, and its bytes in base 16.
type example struct {
	r    api.Row
	want string
}

// examples is rows of all kinds, with numbers, keys and texts at their ends.
func examples() []example {
	var all []int
	allBytes := "40"
	for i := range 64 {
		all = append(all, i)
		allBytes += hex.EncodeToString([]byte{byte(i)})
	}
	name, text := strings.Repeat("n", 24), strings.Repeat("\xfe", 300)
	nameBytes, textBytes := "18"+strings.Repeat("6e", 24), "ac02"+strings.Repeat("fe", 300)
	return []example{
		{api.Row{Kind: api.RAdd}, "01 00 00 00 00 00 00 00"},
		{api.Row{Kind: api.RAdd, Msg: api.Msg{UID: 1, Mod: 2, Date: 3, ID: "q", Flags: 4, Keys: []int{5}, Text: "hi"}}, "01 01 02 03 0171 04 0105 026869"},
		{api.Row{Kind: api.RAdd, Msg: api.Msg{UID: 1000000, Mod: 999999, Date: 300, ID: name, Flags: 31, Keys: all, Text: text}}, "01 c0843d bf843d ac02" + nameBytes + "1f" + allBytes + textBytes},
		{api.Row{Kind: api.RAdd, Msg: api.Msg{ID: "a b\x00", Flags: 1000000}}, "01 00 00 00 0461206200 c0843d 00 00"},
		{api.Row{Kind: api.RFlags}, "02 00 00 00 00"},
		{api.Row{Kind: api.RFlags, UID: 1, Mod: 2, Msg: api.Msg{Flags: 8, Keys: []int{0, 63}}}, "02 01 02 08 02003f"},
		{api.Row{Kind: api.RFlags, UID: 1000000, Mod: 1000000, Msg: api.Msg{Flags: 1000000, Keys: []int{3, 3, 1}}}, "02 c0843d c0843d c0843d 03030301"},
		{api.Row{Kind: api.RFlags, Msg: api.Msg{Keys: all}}, "02 00 00 00" + allBytes},
		{api.Row{Kind: api.RCut}, "03 00 00"},
		{api.Row{Kind: api.RCut, UID: 1, Mod: 1000000}, "03 01 c0843d"},
		{api.Row{Kind: api.RWord}, "04 00"},
		{api.Row{Kind: api.RWord, Text: "w"}, "04 0177"},
		{api.Row{Kind: api.RWord, Text: name}, "04" + nameBytes},
		{api.Row{Kind: api.RName}, "05 00 00"},
		{api.Row{Kind: api.RName, UID: 128, Text: "\xff"}, "05 8001 01ff"},
		{api.Row{Kind: api.RName, UID: 1000000, Text: name}, "05 c0843d" + nameBytes},
		{api.Row{Kind: api.RMod}, "06 00 00"},
		{api.Row{Kind: api.RMod, UID: 127, Mod: 4}, "06 7f 04"},
		{api.Row{Kind: api.RHigh}, "07 00"},
		{api.Row{Kind: api.RHigh, Mod: 1000000}, "07 c0843d"},
	}
}

// parsed fails the test where Parse tells other rows or another Errno.
func parsed(t *testing.T, what any, b []byte, e api.Errno, want ...api.Row) {
	t.Helper()
	got, ge := row.Parse(b)
	rowsAre(t, what, got, ge, want, e)
}

// TestP7_4Bytes: each kind's own fields, one behind the other, and back.
func TestP7_4Bytes(t *testing.T) {
	var l []api.Row
	var all []byte
	for i, x := range examples() {
		if got := row.Bytes([]api.Row{x.r}); !bytes.Equal(got, hexed(x.want)) {
			t.Errorf("Bytes of %d: %x", i, got)
		}
		parsed(t, i, hexed(x.want), api.OK, x.r)
		l, all = append(l, x.r), append(all, hexed(x.want)...)
	}
	if got := row.Bytes(l); !bytes.Equal(got, all) {
		t.Errorf("Bytes of all: %x", got)
	}
	parsed(t, "all", all, api.OK, l...)
	parsed(t, "nothing", nil, api.OK)
	parsed(t, "no bytes", []byte{}, api.OK)
	if len(row.Bytes(nil)) != 0 || len(row.Bytes([]api.Row{})) != 0 {
		t.Error("Bytes of nothing")
	}
}

// noRows is rows that Parse does not tell: too great or small, or with fields that their kind has not.
func noRows() []api.Row {
	long := strings.Repeat("n", 25)
	l := []api.Row{
		{}, {Kind: 8}, {Kind: -1}, {Kind: -7}, {Kind: 1<<8 + 1}, {Kind: 1<<32 + 7}, {Kind: 1000001},
		{Kind: api.RAdd, Msg: api.Msg{ID: long}}, {Kind: api.RAdd, Msg: api.Msg{Text: strings.Repeat("t", 301)}}, {Kind: api.RWord, Text: long}, {Kind: api.RName, Text: long},
		{Kind: api.RAdd, Msg: api.Msg{Keys: []int{64}}}, {Kind: api.RAdd, Msg: api.Msg{Keys: []int{0, -1}}}, {Kind: api.RAdd, Msg: api.Msg{Keys: make([]int, 65)}},
		{Kind: api.RFlags, Msg: api.Msg{Keys: []int{64}}}, {Kind: api.RFlags, Msg: api.Msg{Keys: []int{-1, 0}}}, {Kind: api.RFlags, Msg: api.Msg{Keys: make([]int, 65)}}, {Kind: api.RFlags, Msg: api.Msg{Keys: make([]int, 100000)}},
		{Kind: api.RWord, Text: strings.Repeat("w", 1<<20)},
	}
	for _, n := range append([]int{-1, 1000001}, far...) {
		l = append(l,
			api.Row{Kind: api.RAdd, Msg: api.Msg{UID: n}}, api.Row{Kind: api.RAdd, Msg: api.Msg{Mod: n}}, api.Row{Kind: api.RAdd, Msg: api.Msg{Date: n}}, api.Row{Kind: api.RAdd, Msg: api.Msg{Flags: n}},
			api.Row{Kind: api.RFlags, UID: n}, api.Row{Kind: api.RFlags, Mod: n}, api.Row{Kind: api.RFlags, Msg: api.Msg{Flags: n}},
			api.Row{Kind: api.RCut, UID: n}, api.Row{Kind: api.RCut, Mod: n}, api.Row{Kind: api.RName, UID: n},
			api.Row{Kind: api.RMod, UID: n}, api.Row{Kind: api.RMod, Mod: n}, api.Row{Kind: api.RHigh, Mod: n})
	}
	for _, msg := range []api.Msg{{UID: 1}, {Mod: 1}, {Date: 1}, {ID: "q"}, {Flags: 1}, {Keys: []int{0}}, {Text: "t"}} {
		for kind := api.RCut; kind <= api.RHigh; kind++ {
			l = append(l, api.Row{Kind: kind, Msg: msg})
		}
		if msg.Flags == 0 && len(msg.Keys) == 0 {
			l = append(l, api.Row{Kind: api.RFlags, Msg: msg})
		}
	}
	for kind, named := range map[int]string{api.RAdd: "", api.RFlags: "UID Mod", api.RCut: "UID Mod", api.RWord: "Text", api.RName: "UID Text", api.RMod: "UID Mod", api.RHigh: "Mod"} {
		for field, r := range map[string]api.Row{"UID": {Kind: kind, UID: 1}, "Mod": {Kind: kind, Mod: 1}, "Text": {Kind: kind, Text: "t"}} {
			if !strings.Contains(named, field) {
				l = append(l, r)
			}
		}
	}
	return l
}

// TestP7_4BytesNothing: of rows that Parse does not tell there is nothing, wherever they stand.
func TestP7_4BytesNothing(t *testing.T) {
	good := api.Row{Kind: api.RHigh, Mod: 1}
	for _, r := range noRows() {
		for _, l := range [][]api.Row{{r}, {good, r}, {r, good}, {good, r, good}} {
			if got := row.Bytes(l); len(got) != 0 {
				t.Errorf("Bytes of %v: %x", r, got)
			}
		}
	}
}

// TestP7_4Many: 200 rows, and no more.
func TestP7_4Many(t *testing.T) {
	var l []api.Row
	var b []byte
	for i := range 200 {
		x := examples()[i%20]
		l, b = append(l, x.r), append(b, hexed(x.want)...)
	}
	if got := row.Bytes(l); !bytes.Equal(got, b) {
		t.Errorf("Bytes of 200: %d bytes", len(got))
	}
	parsed(t, 200, b, api.OK, l...)
	for _, more := range [][]byte{{7, 5}, {7}, {0}, {8}, {99}, {0x80}, {0xff, 0xff, 0xff, 0xff, 0xff, 0xff, 0xff}} {
		parsed(t, more, append(slices.Clone(b), more...), api.ErrFull)
	}
	parsed(t, "an error ahead", append([]byte{8}, b...), api.ErrForm)
	parsed(t, "a short one", b[:len(b)-1], api.ErrShort)
	if got := row.Bytes(append(l, l[0])); len(got) != 0 {
		t.Errorf("Bytes of 201: %d bytes", len(got))
	}
	if got := row.Bytes(make([]api.Row, 100000)); len(got) != 0 {
		t.Errorf("Bytes of many: %d bytes", len(got))
	}
}

// TestP7_4Short: bytes that end within a row are short, whatever rows are ahead of it.
func TestP7_4Short(t *testing.T) {
	for i, x := range examples() {
		b := hexed(x.want)
		for n := 1; n < len(b); n++ {
			parsed(t, []int{i, n}, b[:n], api.ErrShort)
			parsed(t, []int{i, n}, append([]byte{7, 1}, b[:n]...), api.ErrShort)
		}
	}
}

// TestP7_4Form: what is too great, or no number, or no kind; the first such thing, or lack, from the first byte on.
func TestP7_4Form(t *testing.T) {
	const over = " c1843d" // MaxUID and one
	for _, ahead := range []string{"", "07 01", "04 0177"} {
		for _, s := range []string{
			"00", "08", "09", "7f", "8101", "8107", "ff7f",
			"01" + over, "01 00" + over, "01 00 00" + over, "01 00 00 00 00" + over, "01 00 00 00 19", "01 00 00 00 8101", "01 00 00 00 00 00 41", "01 00 00 00 00 00 ff01", "01 00 00 00 00 00 01 40", "01 00 00 00 00 00 02 00 8001", "01 00 00 00 00 00 00 ad02",
			"02" + over, "02 00" + over, "02 00 00" + over, "02 00 00 00 41", "02 00 00 00 01 40", "02 00 00 00 02 00 40", "02 00 00 00" + over,
			"03" + over, "03 00" + over, "06" + over, "06 00" + over, "07" + over,
			"04 19", "04 ac02", "05 00 19", "05" + over,
			"8000", "07 8000", "07 808000", "07 ffffffffffff", "07 818080808020", "07 808080808020", "04 8000", "04 8100", "02 00 00 00 8000", "02 00 00 00 01 8000",
		} {
			parsed(t, s, hexed(ahead+s), api.ErrForm)
			parsed(t, s, hexed(ahead+s+"00"), api.ErrForm)
			parsed(t, s, hexed(ahead+s+"07 80"), api.ErrForm)
		}
		for _, s := range []string{"80", "ffffffffff", "07", "07 80", "04", "04 18", "04 01", "05 00", "05 00 18 00", "01 00 00 00 18", "01 00 00 00 00 00 40 00", "02 00 00 00 40 3f", "01 00 00 00 00 00 00 ac02 40"} {
			parsed(t, s, hexed(ahead+s), api.ErrShort)
		}
	}
	parsed(t, "behind what is short nothing is met", hexed("07 01 04 05 08 08"), api.ErrShort)
}

// TestP7_4Same: rows are the same if nothing of them differs, whether their kinds name it or not.
func TestP7_4Same(t *testing.T) {
	lists := func() [][]api.Row {
		var l [][]api.Row
		for _, change := range []func(r *api.Row){
			func(r *api.Row) {},
			func(r *api.Row) { r.Kind++ },
			func(r *api.Row) { r.Kind = 99 },
			func(r *api.Row) { r.UID++ },
			func(r *api.Row) { r.Mod++ },
			func(r *api.Row) { r.Text = "x" },
			func(r *api.Row) { r.Msg.UID++ },
			func(r *api.Row) { r.Msg.Mod++ },
			func(r *api.Row) { r.Msg.Date++ },
			func(r *api.Row) { r.Msg.ID = "x" },
			func(r *api.Row) { r.Msg.Flags++ },
			func(r *api.Row) { r.Msg.Keys = []int{1} },
			func(r *api.Row) { r.Msg.Keys = []int{2, 1} },
			func(r *api.Row) { r.Msg.Keys = []int{1, 2, 3} },
			func(r *api.Row) { r.Msg.Keys = nil },
			func(r *api.Row) { r.Msg.Text = "x" },
		} {
			r := api.Row{Kind: api.RHigh, UID: 1, Mod: 2, Text: "t", Msg: api.Msg{UID: 3, Mod: 4, Date: 5, ID: "q", Flags: 6, Keys: []int{1, 2}, Text: "u"}}
			was := r
			change(&r)
			l = append(l, []api.Row{r}, []api.Row{was, r}, []api.Row{r, {}})
		}
		return append(l, nil, []api.Row{{}}, []api.Row{{}, {}})
	}
	a, b := lists(), lists()
	for i := range a {
		for j := range b {
			if got := row.Same(a[i], b[j]); got != (i == j) {
				t.Errorf("Same of %v and %v: %v", a[i], b[j], got)
			}
		}
	}
	none, empty := []api.Row{{Kind: api.RFlags}}, []api.Row{{Kind: api.RFlags, Msg: api.Msg{Keys: []int{}}}}
	if !row.Same(nil, []api.Row{}) || !row.Same([]api.Row{}, nil) || !row.Same(none, empty) || !row.Same(empty, none) {
		t.Error("nil and empty lists are two")
	}
}

// randomRow is a row that Parse may tell.
func randomRow(r *rand.Rand) api.Row {
	n := func() int { return r.Intn(1 << (1 + r.Intn(19))) }
	text := func(most int) string { return strings.Repeat(string(rune(r.Intn(128))), r.Intn(most+1)) }
	keys := func() []int {
		var l []int
		for range r.Intn(5) {
			l = append(l, r.Intn(64))
		}
		return l
	}
	switch kind := 1 + r.Intn(7); kind {
	case api.RAdd:
		return api.Row{Kind: kind, Msg: api.Msg{UID: n(), Mod: n(), Date: n(), ID: text(24), Flags: n(), Keys: keys(), Text: text(300)}}
	case api.RFlags:
		return api.Row{Kind: kind, UID: n(), Mod: n(), Msg: api.Msg{Flags: n(), Keys: keys()}}
	case api.RWord:
		return api.Row{Kind: kind, Text: text(24)}
	case api.RName:
		return api.Row{Kind: kind, UID: n(), Text: text(24)}
	case api.RHigh:
		return api.Row{Kind: kind, Mod: n()}
	default:
		return api.Row{Kind: kind, UID: n(), Mod: n()}
	}
}

// TestP7_5Read: what is read back is what was written; of all bytes that are rows, these are what is written of them.
func TestP7_5Read(t *testing.T) {
	r := rand.New(rand.NewSource(10))
	read := 0
	for range 5000 {
		var l []api.Row
		for range r.Intn(6) {
			l = append(l, randomRow(r))
		}
		b := row.Bytes(l)
		if len(b) == 0 != (len(l) == 0) {
			t.Fatalf("%v: %x", l, b)
		}
		parsed(t, l, b, api.OK, l...)
		if len(b) == 0 {
			continue
		}
		b[r.Intn(len(b))] = byte(r.Intn(256))
		b = b[:len(b)-r.Intn(2)]
		if l, e := row.Parse(b); e == api.OK {
			read++
			if got := row.Bytes(l); !bytes.Equal(got, b) {
				t.Fatalf("%x is read as %v, and written as %x", b, l, got)
			}
		} else if len(l) != 0 || e != api.ErrShort && e != api.ErrForm {
			t.Fatalf("%x: %v, %d", b, l, e)
		}
	}
	if read < 500 {
		t.Errorf("%d of them are rows", read)
	}
}

// TestP7_4Memory: what is handed in is neither changed nor kept (R2), nor is what lies behind its length.
func TestP7_4Memory(t *testing.T) {
	var l []api.Row
	for _, x := range examples() {
		x.r.Msg.Keys = append(x.r.Msg.Keys, 77, 78)[:len(x.r.Msg.Keys)]
		l = append(l, x.r)
	}
	l = append(l, api.Row{Kind: 99})[:len(l)]
	b := row.Bytes(l)
	if behind := l[:len(l)+1][len(l)]; behind.Kind != 99 || !slices.Equal(l[1].Msg.Keys[:3], []int{5, 77, 78}) {
		t.Error("what lies behind a length is written to")
	}
	was := slices.Clone(b)
	again := row.Bytes(l)
	for i := range again {
		again[i] = 0xee
	}
	_ = append(again, 0xee)
	if !bytes.Equal(b, was) || !bytes.Equal(row.Bytes(l), was) {
		t.Error("two answers of Bytes share memory")
	}

	given := append(slices.Clone(b), 8, 8)
	got, e := row.Parse(given[:len(b)])
	if e != api.OK || !row.Same(got, l) {
		t.Fatalf("%v, %d", got, e)
	}
	for i := range given {
		given[i] = 0xee
	}
	if !row.Same(got, l) {
		t.Error("Parse keeps the bytes")
	}
	for i := range got {
		for j := range got[i].Msg.Keys {
			got[i].Msg.Keys[j] = 99
		}
		_ = append(got[i].Msg.Keys, 99)
		got[i].Msg.Keys = nil
	}
	parsed(t, "again", b, api.OK, l...)
}
