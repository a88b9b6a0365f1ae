// Package lower_test asks lower by its face alone, promise by promise.
package lower_test

import (
	"math"
	"math/rand"
	"reflect"
	"slices"
	"strconv"
	"strings"
	"testing"

	"mailsack/api"
	"mailsack/box"
	"mailsack/image"
	"mailsack/lower"
	"mailsack/samples"
)

// projected fails the test where Project of a form tells another box.
func projected(t *testing.T, what any, version int, b, want api.Box) {
	t.Helper()
	if got, e := lower.Project(version, b); !box.Same(got, want) || e != api.OK {
		t.Errorf("Project(%d) of %v: %v, error %d; not %v", version, what, got, e, want)
	}
}

// lost fails the test where Losses of a form tells others.
func lost(t *testing.T, what any, version int, b api.Box, want ...api.Loss) {
	t.Helper()
	if got, e := lower.Losses(version, b); !slices.Equal(got, want) || e != api.OK {
		t.Errorf("Losses(%d) of %v: %v, error %d; not %v", version, what, got, e, want)
	}
}

// high, word, keys, name and mod are losses.
func high(mod string) api.Loss            { return api.Loss{Kind: api.RHigh, Text: mod} }
func word(text string) api.Loss           { return api.Loss{Kind: api.RWord, Text: text} }
func keys(uid int, words string) api.Loss { return api.Loss{Kind: api.RFlags, UID: uid, Text: words} }
func name(uid int, id string) api.Loss    { return api.Loss{Kind: api.RName, UID: uid, Text: id} }
func mod(uid int, digits string) api.Loss { return api.Loss{Kind: api.RMod, UID: uid, Text: digits} }

// TestP12_1Arg: no form, or no box, whatever box.May says of it.
func TestP12_1Arg(t *testing.T) {
	asked := func(what any, version int, b api.Box) {
		t.Helper()
		if got, e := lower.Project(version, b); !box.Same(got, api.Box{}) || e != api.ErrArg {
			t.Errorf("Project(%d) of %v: %v, error %d", version, what, got, e)
		}
		if l, e := lower.Losses(version, b); len(l) != 0 || e != api.ErrArg {
			t.Errorf("Losses(%d) of %v: %v, error %d", version, what, l, e)
		}
	}
	for _, version := range []int{0, 4, 5, -1, -2, -3, 257, 1<<32 + 1, math.MinInt, math.MaxInt} {
		asked("a box", version, samples.Rich())
		asked("an empty box", version, box.Empty("b1", 5))
		asked("nothing", version, api.Box{})
	}
	for i, change := range []func(b *api.Box){
		func(b *api.Box) { *b = api.Box{} },
		func(b *api.Box) { b.ID = "" },
		func(b *api.Box) { b.ID += "b" },
		func(b *api.Box) { b.Valid = 0 },
		func(b *api.Box) { b.High = 1000001 },
		func(b *api.Box) { b.Next = 999999 },
		func(b *api.Box) { b.Words = samples.Words(65) },
		func(b *api.Box) { b.Words[63] = b.Words[62] },
		func(b *api.Box) { b.Msgs = make([]api.Msg, 61) },
		func(b *api.Box) { b.Msgs[59].ID = "a b" },
		func(b *api.Box) { b.Msgs[59].Keys = []int{64} },
		func(b *api.Box) { b.Msgs[59].Text += "t" },
	} {
		for version := 1; version <= 3; version++ {
			b := samples.Full()
			change(&b)
			asked(i, version, b)
		}
	}
}

// TestP12_1Nothing: what each form says is told as it is, and nothing of it is lost.
func TestP12_1Nothing(t *testing.T) {
	for version := 1; version <= 3; version++ {
		for _, b := range []api.Box{box.Empty("b1", 5), samples.Plain()} {
			projected(t, b, version, b, b)
			lost(t, b, version, b)
		}
	}
	for _, b := range []api.Box{samples.Rich(), samples.Full()} {
		projected(t, b, 3, b, b)
		lost(t, b, 3, b)
	}
}

// TestP12_1Project: of 1 and 2 the first words, keys and own names; of 1 no changes.
func TestP12_1Project(t *testing.T) {
	want := samples.Rich()
	want.Words = samples.Words(32)
	want.Msgs[0].Keys, want.Msgs[0].ID = []int{0, 31}, "e2-b1"
	want.Msgs[2].Keys, want.Msgs[4].Keys, want.Msgs[6].Keys = nil, []int{1}, nil
	want.Msgs[3].ID, want.Msgs[6].ID = "e20-b1", "e23-b1"
	projected(t, "a box", 2, samples.Rich(), want)
	want.High = 1
	for i := range want.Msgs {
		want.Msgs[i].Mod = 1
	}
	projected(t, "a box", 1, samples.Rich(), want)
}

// TestP12_1Losses: High, words, and of each message its keywords, its Mod behind these, its name, or its Mod behind that.
func TestP12_1Losses(t *testing.T) {
	lost(t, "a box", 1, samples.Rich(), high("9"), word("w32"), word("w33"), word("w34"),
		keys(2, "w32 w34"), mod(2, "3"), name(2, "q"), keys(9, "w33"), name(20, "n"), mod(20, "4"),
		keys(21, "w34"), mod(21, "9"), mod(22, "2"), keys(23, "w32"), name(23, "m"))
	lost(t, "a box", 2, samples.Rich(), word("w32"), word("w33"), word("w34"),
		keys(2, "w32 w34"), name(2, "q"), keys(9, "w33"), name(20, "n"), keys(21, "w34"), keys(23, "w32"), name(23, "m"))
}

// TestP12_1One: what is lost of one thing that a form does not say, thing by thing.
func TestP12_1One(t *testing.T) {
	for _, x := range []struct {
		what   string
		change func(b *api.Box)
		one    []api.Loss // of form 1
		two    []api.Loss // of form 2
	}{
		{"a High", func(b *api.Box) { b.High = 2 }, []api.Loss{high("2")}, nil},
		{"the greatest High", func(b *api.Box) { b.High = 1000000 }, []api.Loss{high("1000000")}, nil},
		{"a Valid and a Next", func(b *api.Box) { b.Valid, b.Next = 1000000, 1000000 }, nil, nil},
		{"a word more", func(b *api.Box) { b.Words = append(b.Words, "x") }, []api.Loss{word("x")}, []api.Loss{word("x")}},
		{"a Mod", func(b *api.Box) { b.High, b.Msgs[1].Mod = 1000000, 1000000 }, []api.Loss{high("1000000"), mod(29, "1000000")}, nil},
		{"a name", func(b *api.Box) { b.Msgs[1].ID = "q" }, []api.Loss{name(29, "q")}, []api.Loss{name(29, "q")}},
		{"another box's name", func(b *api.Box) { b.Msgs[0].ID = "e2-b2" }, []api.Loss{name(2, "e2-b2")}, []api.Loss{name(2, "e2-b2")}},
		{"a name and a Mod", func(b *api.Box) { b.High, b.Msgs[0].ID, b.Msgs[0].Mod = 7, "q", 6 }, []api.Loss{high("7"), name(2, "q"), mod(2, "6")}, []api.Loss{name(2, "q")}},
		{"a keyword", func(b *api.Box) { b.Words, b.Msgs[0].Keys = samples.Words(33), []int{3, 32} }, []api.Loss{word("w32"), keys(2, "w32")}, []api.Loss{word("w32"), keys(2, "w32")}},
		{"a keyword and a name", func(b *api.Box) { b.Words, b.Msgs[1].Keys, b.Msgs[1].ID = samples.Words(33), []int{32}, "q" },
			[]api.Loss{word("w32"), keys(29, "w32"), name(29, "q")}, []api.Loss{word("w32"), keys(29, "w32"), name(29, "q")}},
		{"a keyword and a Mod", func(b *api.Box) { b.High, b.Words, b.Msgs[1].Keys, b.Msgs[1].Mod = 2, samples.Words(33), []int{32}, 2 },
			[]api.Loss{high("2"), word("w32"), keys(29, "w32"), mod(29, "2")}, []api.Loss{word("w32"), keys(29, "w32")}},
	} {
		b := samples.Plain()
		x.change(&b)
		lost(t, x.what, 1, b, x.one...)
		lost(t, x.what, 2, b, x.two...)
		lost(t, x.what, 3, b)
	}
}

// TestP12_1Most: as many as there are, in rows that say three things, too.
func TestP12_1Most(t *testing.T) {
	far := strings.Join(samples.Words(64)[32:], " ")
	var one, two []api.Loss
	for _, text := range samples.Words(64)[32:] {
		two = append(two, word(text))
	}
	one = append([]api.Loss{high("1000000")}, two...)
	for i := range 60 {
		uid, id := 999940+i, strings.Repeat("i", 24)
		one = append(one, keys(uid, far), mod(uid, "1000000"), name(uid, id))
		two = append(two, keys(uid, far), name(uid, id))
	}
	if len(one) <= api.MaxRows {
		t.Fatal("the box does not lose more than there are rows")
	}
	lost(t, "the fullest box", 1, samples.Full(), one...)
	lost(t, "the fullest box", 2, samples.Full(), two...)
}

// TestP12_2Text: by the kind; a UID of those of a message alone, and the text as it is.
func TestP12_2Text(t *testing.T) {
	for _, x := range []struct {
		l    api.Loss
		want string
	}{
		{word("x"), "word x"},
		{keys(7, "x y"), "keys 7 x y"},
		{name(7, "x"), "name 7 x"},
		{mod(7, "9"), "mod 7 9"},
		{high("9"), "high 9"},
		{api.Loss{Kind: api.RWord, UID: 4, Text: "x"}, "word x"},
		{api.Loss{Kind: api.RHigh, UID: 4, Text: "9"}, "high 9"},
		{word(""), "word "},
		{high(""), "high "},
		{keys(0, ""), "keys 0 "},
		{name(-4, "a b\n"), "name -4 a b\n"},
		{mod(1000000, "no digits"), "mod 1000000 no digits"},
		{keys(math.MinInt, "\x00"), "keys -9223372036854775808 \x00"},
		{keys(math.MaxInt, "\xff"), "keys 9223372036854775807 \xff"},
	} {
		if got := lower.Text(x.l); got != x.want {
			t.Errorf("Text of %v: %q, not %q", x.l, got, x.want)
		}
	}
	for _, kind := range []int{0, api.RAdd, api.RCut, 8, 9, -1, -4, 260, 1<<32 + 4, math.MinInt, math.MaxInt} {
		if got := lower.Text(api.Loss{Kind: kind, UID: 7, Text: "x"}); got != "" {
			t.Errorf("Text of kind %d: %q", kind, got)
		}
	}
}

// TestP12_2Example: a word from the 33rd on is lost in form 2.
func TestP12_2Example(t *testing.T) {
	b := samples.Plain()
	b.Words = append(b.Words, "x")
	l, e := lower.Losses(2, b)
	if len(l) != 1 || lower.Text(l[0]) != "word x" || e != api.OK {
		t.Errorf("%v, error %d", l, e)
	}
}

// between tells what b has and less has not, by holding the two against each other, knowing nothing of forms.
func between(less, b api.Box) []api.Loss {
	var l []api.Loss
	if less.High != b.High {
		l = append(l, high(strconv.Itoa(b.High)))
	}
	for _, text := range b.Words[len(less.Words):] {
		l = append(l, word(text))
	}
	for i, m := range b.Msgs {
		was := less.Msgs[i]
		var changed []api.Loss
		if was.Mod != m.Mod {
			changed = []api.Loss{mod(m.UID, strconv.Itoa(m.Mod))}
		}
		if far := box.Words(b, m)[len(was.Keys):]; len(far) > 0 {
			l = append(append(l, keys(m.UID, strings.Join(far, " "))), changed...)
			changed = nil
		}
		if was.ID != m.ID {
			l = append(l, name(m.UID, m.ID))
		}
		l = append(l, changed...)
	}
	return l
}

// TestP12_3Lost: nothing is lost just where it is the same box; what is lost is just what is not the same.
func TestP12_3Lost(t *testing.T) {
	r := rand.New(rand.NewSource(12))
	var none, some [4]int
	for range 5000 {
		b := samples.Drawn(r.Intn)
		for version := 1; version <= 3; version++ {
			less, e := lower.Project(version, b)
			if e != api.OK || box.May(less) != api.OK {
				t.Fatalf("Project(%d) of %v: %v, error %d", version, b, less, e)
			}
			want := between(less, b)
			lost(t, b, version, b, want...)
			if (len(want) == 0) != box.Same(less, b) {
				t.Fatalf("Project(%d) of %v: %v, but %v is lost", version, b, less, want)
			}
			projected(t, "what a form says", version, less, less)
			lost(t, "what a form says", version, less)
			if len(want) == 0 {
				none[version]++
			} else {
				some[version]++
			}
		}
	}
	if none[1] < 300 || some[1] < 300 || none[2] <= none[1] || some[2] < 300 || some[3] > 0 {
		t.Errorf("boxes of which nothing is lost: %v; something: %v", none, some)
	}
}

// TestP12_3Alone: it is what the form's bytes alone are read as.
func TestP12_3Alone(t *testing.T) {
	r := rand.New(rand.NewSource(13))
	for range 500 {
		b := samples.Drawn(r.Intn)
		for version := 1; version <= 3; version++ {
			raw, _, _ := image.Make(version, b)
			want, _ := image.Parse(raw, b.ID)
			projected(t, b, version, b, want)
		}
	}
}

// TestKeeps: what is handed in stays, and what lies behind it is not told (R2).
func TestKeeps(t *testing.T) {
	long := samples.Full()
	for i := range long.Msgs {
		long.Msgs[i].Keys = append(long.Msgs[i].Keys, 7, 7)
	}
	long.Words = append(long.Words, "behind")
	long.Msgs = append(long.Msgs, api.Msg{ID: "behind"})
	was := box.Copy(long)
	b := long
	b.Words, b.Msgs = long.Words[:64], slices.Clone(long.Msgs[:60])
	for i := range b.Msgs {
		b.Msgs[i].Keys = b.Msgs[i].Keys[:64]
	}
	for version := 1; version <= 3; version++ {
		want, _ := lower.Project(version, samples.Full())
		projected(t, "what lies behind", version, b, want)
		l, _ := lower.Losses(version, samples.Full())
		lost(t, "what lies behind", version, b, l...)
	}
	if !reflect.DeepEqual(long, was) {
		t.Error("what was handed in is changed")
	}
}

// TestKeepsOwn: what is told is the caller's own, and no two lists of it share memory (R2).
func TestKeepsOwn(t *testing.T) {
	for version := 1; version <= 3; version++ {
		b := samples.Full()
		shared := b.Msgs[1].Keys
		for i := range b.Msgs {
			b.Msgs[i].Keys = shared
		}
		was := box.Copy(b)
		got, _ := lower.Project(version, b)
		got.Words[0] = "other"
		for i := range got.Msgs {
			for j := range got.Msgs[i].Keys {
				got.Msgs[i].Keys[j] += 100 * i
			}
			_ = append(got.Msgs[i].Keys, 99)
		}
		for i, m := range got.Msgs {
			if m.Keys[0] != 100*i {
				t.Fatalf("form %d: keys of two messages share memory", version)
			}
		}
		if !box.Same(b, was) {
			t.Errorf("form %d: what Project told shares memory with the box", version)
		}
	}
}
