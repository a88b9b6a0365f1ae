// Package flag_test asks flag by its face alone, promise by promise.
package flag_test

import (
	"math"
	"math/rand"
	"slices"
	"strconv"
	"strings"
	"testing"

	"mailsack/api"
	"mailsack/flag"
)

// names is all flags' names, by their bits, rising: the i-th one's bit is 1<<i.
var names = []string{`\Answered`, `\Flagged`, `\Deleted`, `\Seen`, `\Draft`}

// TestP3_1Bit: each flag's bit, by its name as it is written and in any great and small letters.
func TestP3_1Bit(t *testing.T) {
	bits := []int{api.FAnswered, api.FFlagged, api.FDeleted, api.FSeen, api.FDraft}
	for i, name := range names {
		small, great := strings.ToLower(name), strings.ToUpper(name)
		mixed := []byte(small)
		for j := 1; j < len(mixed); j += 2 {
			mixed[j] = great[j]
		}
		for _, s := range []string{name, small, great, string(mixed)} {
			if got := flag.Bit(s); got != bits[i] || got != 1<<i {
				t.Errorf("Bit(%q): %d", s, got)
			}
		}
	}
}

// TestP3_1BitOfOthers: what is no flag's name, however near, has no bit.
func TestP3_1BitOfOthers(t *testing.T) {
	others := []string{"", `\`, `\\`, `\Recent`, `\*`, "work", "\x00", "(", `\Seen \Draft`,
		"\\\u017feen", "\\An\u017fwered", "\\S\u00e9en", "\\\uff33een"} // letters that are no a to z, but fold to one
	for _, name := range names {
		others = append(others, name[1:], name[:len(name)-1], name+" ", " "+name, `\`+name, name+"s", name+"\x00",
			"/"+name[1:], "|"+name[1:], "<"+name[1:])
	}
	for _, s := range others {
		if got := flag.Bit(s); got != 0 {
			t.Errorf("Bit(%q): %d", s, got)
		}
	}
}

// TestP3_1BitOfOtherBytes: a flag's name with any one byte another one is none, but for the letter's great or small one.
func TestP3_1BitOfOtherBytes(t *testing.T) {
	for i, name := range names {
		for at := range len(name) {
			for c := range 256 {
				b := []byte(name)
				b[at] = byte(c)
				want := 0
				if letter := at > 0 && (c == int(name[at]|32) || c == int(name[at]&^32)); letter || byte(c) == name[at] {
					want = 1 << i
				}
				if got := flag.Bit(string(b)); got != want {
					t.Errorf("Bit(%q): %d, not %d", b, got, want)
				}
			}
		}
	}
}

// TestP3_1Name: a bit's name as it is written, and back; nothing of what is not one flag's bit.
func TestP3_1Name(t *testing.T) {
	for bit := -70; bit < 200; bit++ {
		want := ""
		if i := slices.Index([]int{1, 2, 4, 8, 16}, bit); i >= 0 {
			want = names[i]
		}
		got := flag.Name(bit)
		if got != want {
			t.Errorf("Name(%d): %q", bit, got)
		}
		if got != "" && flag.Bit(got) != bit {
			t.Errorf("Bit of Name(%d): %d", bit, flag.Bit(got))
		}
	}
	for _, bit := range []int{math.MinInt, math.MinInt + 1, math.MaxInt, 1 << 62, 1 << 32, 1<<32 + 8, 1<<62 + 1} {
		if got := flag.Name(bit); got != "" {
			t.Errorf("Name(%d): %q", bit, got)
		}
	}
}

// plain is all bytes that an atom may have.
const plain = "abcdefghijklmnopqrstuvwxyzABCDEFGHIJKLMNOPQRSTUVWXYZ0123456789._-$/"

// may fails the test where s is an atom, or may be a keyword, and shall not, or the other way round.
func may(t *testing.T, s string, want bool) {
	t.Helper()
	if got := flag.Atom(s); got != want {
		t.Errorf("Atom(%q): %v", s, got)
	}
	if got := flag.May(s); got != want {
		t.Errorf("May(%q): %v", s, got)
	}
}

// TestP3_1AtomBytes: of all bytes just these are an atom's, wherever they stand.
func TestP3_1AtomBytes(t *testing.T) {
	n := 0
	for c := range 256 {
		s := string([]byte{byte(c)})
		want := strings.Contains(plain, s)
		if want {
			n++
		}
		for _, word := range []string{s, s + "ab", "a" + s + "b", "ab" + s} {
			may(t, word, want)
		}
	}
	if n != 67 {
		t.Errorf("%d bytes", n)
	}
	for _, s := range []string{"\u00e9", "a\u00e9", "\u0660", "\uff41", "\xff", "a\xc3", "\ufffd", "a b", "a\n", `\Seen`, `a\`, "(a)", "a*", `"a"`, "a%b", "a{1}"} {
		may(t, s, false)
	}
}

// TestP3_1AtomLengths: 1 to 24 bytes.
func TestP3_1AtomLengths(t *testing.T) {
	for n := range 70 {
		may(t, strings.Repeat("z", n), 1 <= n && n <= 24)
	}
	may(t, "", false)
	may(t, plain[:api.MaxName], true)
	may(t, plain[:api.MaxName+1], false)
	may(t, plain, false)
	may(t, strings.Repeat("a", 256+1), false)
	may(t, strings.Repeat("a", 1<<16+1), false)
}

// TestP3_2Text: the names of the bits, rising, and then the words, as they are.
func TestP3_2Text(t *testing.T) {
	for i, c := range []struct {
		flags int
		words []string
		want  string
	}{
		{0, nil, `()`},
		{0, []string{}, `()`},
		{8, []string{"work"}, `(\Seen work)`},
		{1, nil, `(\Answered)`},
		{2, nil, `(\Flagged)`},
		{4, nil, `(\Deleted)`},
		{8, nil, `(\Seen)`},
		{16, nil, `(\Draft)`},
		{24, nil, `(\Seen \Draft)`},
		{17, []string{"z", "a"}, `(\Answered \Draft z a)`},
		{api.AllFlags, nil, `(\Answered \Flagged \Deleted \Seen \Draft)`},
		{api.AllFlags, []string{"a"}, `(\Answered \Flagged \Deleted \Seen \Draft a)`},
		{0, []string{"b", "a", "b"}, `(b a b)`},
		{0, []string{""}, `()`},
		{0, []string{"", ""}, `( )`},
		{8, []string{""}, `(\Seen )`},
		{2, []string{`\Seen`, `\seen`, "a b", "(", ")", "\u00e9\xff"}, "(\\Flagged \\Seen \\seen a b ( ) \u00e9\xff)"},
	} {
		if got := flag.Text(c.flags, c.words); got != c.want {
			t.Errorf("%d: %q, not %q", i, got, c.want)
		}
	}
}

// TestP3_2TextOfOthers: bits that are no flag's are not looked at, the sign not either.
func TestP3_2TextOfOthers(t *testing.T) {
	for _, more := range []int{32, 64, 1 << 31, 1 << 32, 1 << 62, math.MinInt, -32, math.MaxInt &^ 31} {
		for flags := range 32 {
			if got, want := flag.Text(flags|more, []string{"a"}), flag.Text(flags, []string{"a"}); got != want {
				t.Errorf("Text of %d and %d: %q", flags, more, got)
			}
		}
	}
	if got := flag.Text(-1, nil); got != flag.Text(31, nil) {
		t.Errorf("Text(-1): %q", got)
	}
}

// TestP3_2TextKeeps: neither the words nor what lies behind them are written.
func TestP3_2TextKeeps(t *testing.T) {
	back := []string{"b", "a", "x", "y"}
	if got := flag.Text(31, back[:2]); !strings.HasSuffix(got, " b a)") {
		t.Errorf("Text: %q", got)
	}
	if !slices.Equal(back, []string{"b", "a", "x", "y"}) {
		t.Errorf("what was handed in: %q", back)
	}
}

// splits fails the test where l is not split into these.
func splits(t *testing.T, l []string, flags int, words ...string) {
	t.Helper()
	gotFlags, gotWords, ok := flag.Split(l)
	if gotFlags != flags || !slices.Equal(gotWords, words) || !ok {
		t.Errorf("Split(%q): %d %q %v, not %d %q", l, gotFlags, gotWords, ok, flags, words)
	}
}

// TestP3_2Split: the bits together, and the keywords, in order, each once.
func TestP3_2Split(t *testing.T) {
	splits(t, nil, 0)
	splits(t, []string{}, 0)
	splits(t, []string{`\Seen`}, 8)
	splits(t, []string{`\Draft`, `\answered`, `\DELETED`}, 21)
	splits(t, []string{`\Seen`, `\Seen`, `\sEEN`, `\Draft`, `\Seen`}, 24)
	splits(t, names, api.AllFlags)
	splits(t, []string{"work"}, 0, "work")
	splits(t, []string{"b", "a", "b", "c", "a", "b"}, 0, "b", "a", "c")
	splits(t, []string{"a", "A", "Seen", "seen", "a"}, 0, "a", "A", "Seen", "seen")
	splits(t, []string{"z", `\Flagged`, "a", `\flagged`, "z", `\Answered`}, 3, "z", "a")
	splits(t, []string{strings.Repeat("z", 24), "$/._-", "0"}, 0, strings.Repeat("z", 24), "$/._-", "0")
}

// TestP3_2SplitRefuses: one name that is neither, wherever it stands, and nothing is told.
func TestP3_2SplitRefuses(t *testing.T) {
	for _, bad := range []string{"", " ", `\`, `\\`, `\Recent`, `\Seen `, `\a`, `\*`, "a b", "a*", "(a)", "\u00e9", "\\\u017feen", "\x00", strings.Repeat("z", 25)} {
		for _, l := range [][]string{{bad}, {bad, "a", `\Seen`}, {`\Seen`, bad, "a"}, {"a", `\Seen`, bad}, {bad, bad}} {
			flags, words, ok := flag.Split(l)
			if flags != 0 || len(words) != 0 || ok {
				t.Errorf("Split(%q): %d %q %v", l, flags, words, ok)
			}
		}
	}
}

// TestP3_2SplitIsNew: what is told is the caller's own, and what was handed in stays.
func TestP3_2SplitIsNew(t *testing.T) {
	back := []string{"b", "a", "b", "x", "y"}
	_, words, _ := flag.Split(back[:3])
	if !slices.Equal(words, []string{"b", "a"}) {
		t.Fatalf("Split: %q", words)
	}
	words = append(words, "new")
	words[0] = "other"
	if !slices.Equal(back, []string{"b", "a", "b", "x", "y"}) {
		t.Errorf("what was handed in: %q", back)
	}
	again := []string{"c", "d"}
	_, words, _ = flag.Split(again)
	again[0] = "other"
	splits(t, words, 0, "c", "d")
}

// TestP3_2SplitLong: many names, held against their numbers.
func TestP3_2SplitLong(t *testing.T) {
	var l, want []string
	for i := range 3000 {
		l = append(l, strconv.Itoa(i*7%1000), names[i%3])
		if i < 1000 {
			want = append(want, strconv.Itoa(i*7%1000))
		}
	}
	splits(t, l, 7, want...)
}

// back fails the test where a text's names are not split into what it was made of.
func back(t *testing.T, flags int, words []string) {
	t.Helper()
	text := flag.Text(flags, words)
	inner, open := strings.CutPrefix(text, "(")
	inner, closed := strings.CutSuffix(inner, ")")
	if !open || !closed {
		t.Fatalf("no list: %q", text)
	}
	splits(t, strings.Fields(inner), flags, words...)
}

// TestP3_3Back: all flags there are, with no words, and with many.
func TestP3_3Back(t *testing.T) {
	r := rand.New(rand.NewSource(1))
	for flags := range 32 {
		back(t, flags, nil)
		back(t, flags, []string{"Seen", "seen", "answered", "0", "/"})
		for range 50 {
			var words []string
			for range r.Intn(10) {
				word := ""
				for range 1 + r.Intn(api.MaxName) {
					word += string(plain[r.Intn(len(plain))])
				}
				if !slices.Contains(words, word) {
					words = append(words, word)
				}
			}
			back(t, flags, words)
		}
	}
}
