// Package nums_test asks nums by its face alone, promise by promise.
package nums_test

import (
	"fmt"
	"math"
	"math/rand"
	"regexp"
	"slices"
	"strconv"
	"strings"
	"testing"

	"mailsack/api"
	"mailsack/nums"
)

// of makes spans of their ends, two by two.
func of(ends ...int) []api.Span {
	var l []api.Span
	for i := 0; i < len(ends); i += 2 {
		l = append(l, api.Span{From: ends[i], To: ends[i+1]})
	}
	return l
}

// many makes n spans, each from 7 to 9.
func many(n int) []api.Span {
	return slices.Repeat(of(7, 9), n)
}

// TestP4_1May: 1 to 20 spans, each end 0 to 1000000.
func TestP4_1May(t *testing.T) {
	for n := range 70 {
		if got := nums.May(many(n)); got != (1 <= n && n <= 20) {
			t.Errorf("May of %d spans: %v", n, got)
		}
	}
	if nums.May(nil) || nums.May([]api.Span{}) || nums.May(many(256+1)) || nums.May(many(1<<16+1)) {
		t.Error("May of nothing, or of far too many")
	}
	for _, c := range []struct {
		n    int
		want bool
	}{{math.MinInt, false}, {-1000000, false}, {-1, false}, {0, true}, {1, true}, {2, true}, {999999, true}, {1000000, true}, {1000001, false}, {1 << 32, false}, {1<<32 + 1, false}, {math.MaxInt, false}} {
		for _, l := range [][]api.Span{of(c.n, c.n), of(c.n, 3), of(3, c.n), of(c.n, 0), of(0, c.n), of(1, 2, c.n, 4), of(c.n, 4, 1, 2), append(many(19), of(1, c.n)...)} {
			if got := nums.May(l); got != c.want {
				t.Errorf("May(%v): %v", l, got)
			}
		}
	}
}

// parses fails the test where s is not read as want.
func parses(t *testing.T, s string, want []api.Span) {
	t.Helper()
	got, ok := nums.Parse(s)
	if !slices.Equal(got, want) || !ok {
		t.Errorf("Parse(%q): %v %v, not %v", s, got, ok, want)
	}
	if !nums.May(got) {
		t.Errorf("Parse(%q): %v may not be", s, got)
	}
}

// refuses fails the test where s is read as something.
func refuses(t *testing.T, s string) {
	t.Helper()
	if got, ok := nums.Parse(s); len(got) != 0 || ok {
		t.Errorf("Parse(%q): %v %v", s, got, ok)
	}
}

// TestP4_1Parse: a number, a `*`, two with a colon between, and these with commas between.
func TestP4_1Parse(t *testing.T) {
	parses(t, "1", of(1, 1))
	parses(t, "*", of(0, 0))
	parses(t, "10", of(10, 10))
	parses(t, "1000000", of(1000000, 1000000))
	parses(t, "999999", of(999999, 999999))
	parses(t, "2:4", of(2, 4))
	parses(t, "4:2", of(4, 2))
	parses(t, "7:7", of(7, 7))
	parses(t, "1:1000000", of(1, 1000000))
	parses(t, "*:3", of(0, 3))
	parses(t, "3:*", of(3, 0))
	parses(t, "*:*", of(0, 0))
	parses(t, "5:3,9,*", of(5, 3, 9, 9, 0, 0))
	parses(t, "9,1,1,2:3,2:3,*:1", of(9, 9, 1, 1, 1, 1, 2, 3, 2, 3, 0, 1))
	for n := 1; n <= 20; n++ {
		parses(t, strings.TrimSuffix(strings.Repeat("7:9,", n), ","), many(n))
	}
}

// TestP4_1ParseRefuses: what is no such text, or more than 20 spans.
func TestP4_1ParseRefuses(t *testing.T) {
	for n := 21; n < 70; n++ {
		refuses(t, strings.TrimSuffix(strings.Repeat("7:9,", n), ","))
		refuses(t, strings.TrimSuffix(strings.Repeat("*,", n), ","))
	}
	for _, end := range []string{"", "0", "00", "01", "007", "0*", "1000001", "9999999", "10000000", "01000000",
		"4294967297", "18446744073709551617", "99999999999999999999", strings.Repeat("1", 300),
		"+1", "-1", "1_0", "0x1", "1e3", "1.0", " 1", "1 ", "1\n", "\x001", "1\x00", "a", "1a", "a1", "**", "1*", "*1", "$", ";",
		"\u0661", "1\u0661", "\uff11", "\xff", "(1)", `"1"`, "/", "1/", "-*", "1-2", "1;2", "1::2", "1:2:3", "*:*:*"} {
		for _, form := range []string{"#", "#,1", "1,#", "1,#,*", "#:1", "1:#", "*:#", "#:*", "#:#", "5,1:#", "#:1,5"} {
			refuses(t, strings.ReplaceAll(form, "#", end))
		}
	}
	for _, s := range []string{",", ",,", ":", ":,:", "1,", ",1", "1,,2", "1:,2", "1,:2", "*,", ",*", strings.Repeat(",", 1000), strings.Repeat("1:", 1000)} {
		refuses(t, s)
	}
}

// whole is what a span looks like.
var whole = regexp.MustCompile(`^(\*|[1-9][0-9]{0,5}|1000000)(:(\*|[1-9][0-9]{0,5}|1000000))?$`)

// TestP4_1ParseBytes: rows of bytes of all kinds, held against the form of a span.
func TestP4_1ParseBytes(t *testing.T) {
	const bytes = "0123456789**::::,,, -+a"
	r := rand.New(rand.NewSource(1))
	took := 0
	for range 200000 {
		s := ""
		for range r.Intn(12) {
			s += string(bytes[r.Intn(len(bytes))])
		}
		var want []api.Span
		for _, part := range strings.Split(s, ",") {
			m := whole.FindStringSubmatch(part)
			if m == nil {
				want = nil
				break
			}
			from, _ := strconv.Atoi(m[1])
			to, _ := strconv.Atoi(m[3])
			if m[2] == "" {
				to = from
			}
			want = append(want, api.Span{From: from, To: to})
		}
		if want == nil {
			refuses(t, s)
			continue
		}
		took++
		parses(t, s, want)
	}
	if took < 1000 {
		t.Errorf("only %d were texts of spans", took)
	}
}

// TestP4_1Text: a number where both ends are one, else two with a colon between.
func TestP4_1Text(t *testing.T) {
	for i, c := range []struct {
		l    []api.Span
		want string
	}{
		{nil, ""},
		{[]api.Span{}, ""},
		{of(1, 1), "1"},
		{of(0, 0), "*"},
		{of(1000000, 1000000), "1000000"},
		{of(3, 9), "3:9"},
		{of(9, 3), "9:3"},
		{of(9, 0), "9:*"},
		{of(0, 9), "*:9"},
		{of(1000000, 0), "1000000:*"},
		{of(5, 3, 9, 9, 0, 0), "5:3,9,*"},
		{of(2, 2, 2, 2, 1, 2, 2, 3), "2,2,1:2,2:3"},
		{many(20), strings.TrimSuffix(strings.Repeat("7:9,", 20), ",")},
		{many(21), ""},
		{of(-1, 1), ""},
		{of(1, -1), ""},
		{of(1, 1, 2, 1000001), ""},
		{of(1000001, 2, 1, 1), ""},
		{of(math.MinInt, math.MaxInt), ""},
	} {
		if got := nums.Text(c.l); got != c.want {
			t.Errorf("%d: %q, not %q", i, got, c.want)
		}
	}
}

// drawn makes n spans, of ends up to top, and of some that are a `*`.
func drawn(r *rand.Rand, n, top int) []api.Span {
	var l []api.Span
	for range n {
		l = append(l, api.Span{From: r.Intn(top + 1), To: r.Intn(top + 1)})
	}
	return l
}

// TestP4_1Back: what is told as a text is read as it was.
func TestP4_1Back(t *testing.T) {
	r := rand.New(rand.NewSource(2))
	for i := range 20000 {
		l := drawn(r, 1+r.Intn(api.MaxSpans), []int{1, 3, 20, api.MaxUID}[i%4])
		parses(t, nums.Text(l), l)
	}
}

// has fails the test where not just these of the numbers -3 to 40 are in the set.
func has(t *testing.T, l []api.Span, most int, want ...int) {
	t.Helper()
	var got []int
	for n := -3; n <= 40; n++ {
		if nums.Has(l, n, most) {
			got = append(got, n)
		}
	}
	if !slices.Equal(got, want) {
		t.Errorf("%v with most %d: %v, not %v", l, most, got, want)
	}
}

// TestP4_2Has: from here to there, whichever way round, and a `*` for most.
func TestP4_2Has(t *testing.T) {
	has(t, of(5, 3, 9, 9, 0, 0), 12, 3, 4, 5, 9, 12)
	has(t, of(5, 3, 9, 9, 0, 0), 4, 3, 4, 5, 9)
	has(t, of(3, 3), 12, 3)
	has(t, of(3, 5), 12, 3, 4, 5)
	has(t, of(5, 3), 12, 3, 4, 5)
	has(t, of(3, 5), 4, 3, 4, 5) // most is of a `*` alone
	has(t, of(0, 0), 12, 12)
	has(t, of(0, 0), 1, 1)
	has(t, of(9, 0), 12, 9, 10, 11, 12)
	has(t, of(0, 9), 12, 9, 10, 11, 12)
	has(t, of(12, 0), 9, 9, 10, 11, 12)
	has(t, of(0, 12), 9, 9, 10, 11, 12)
	has(t, of(9, 0), 9, 9)
	has(t, of(1, 2, 2, 3, 2, 2), 2, 1, 2, 3)
	has(t, of(40, 1000000), 1, 40)
}

// TestP4_2HasWithoutMost: of most below 1 a span with a `*` has nothing, the others what they have.
func TestP4_2HasWithoutMost(t *testing.T) {
	for _, most := range []int{0, -1, -2, -12, math.MinInt} {
		has(t, of(0, 0), most)
		has(t, of(4, 0), most)
		has(t, of(0, 4), most)
		has(t, of(1, 0, 0, 1), most)
		has(t, of(0, 4, 7, 8, 2, 0), most, 7, 8)
		has(t, of(3, 1), most, 1, 2, 3)
	}
}

// TestP4_2HasNot: a set that may not be has nothing, nor has any a number below 1.
func TestP4_2HasNot(t *testing.T) {
	has(t, nil, 9)
	has(t, []api.Span{}, 9)
	has(t, many(20), 9, 7, 8, 9)
	has(t, many(21), 9)
	has(t, of(-1, 9), 9)
	has(t, of(9, -1), 9)
	has(t, of(1, 9, 1, -1), 9)
	has(t, of(1, 9, 1, 1000001), 9)
	has(t, of(1000001, 1, 1, 9), 9)
	has(t, of(math.MinInt, math.MaxInt), 9)
	for _, n := range []int{0, -1, -5, -1000000, math.MinInt} {
		for _, most := range []int{n, 0, 1, 5, math.MaxInt} {
			if nums.Has(of(0, 0, 1, 0, 0, 1000000), n, most) {
				t.Errorf("Has of %d with most %d", n, most)
			}
		}
	}
}

// TestP4_2HasFar: great numbers, and a most above all that a span may name.
func TestP4_2HasFar(t *testing.T) {
	for i, c := range []struct {
		l       []api.Span
		n, most int
		want    bool
	}{
		{of(1, 1000000), 1000000, 5, true},
		{of(1, 1000000), 999999, 5, true},
		{of(1, 1000000), 1000001, 5, false},
		{of(1, 1000000), 1000001, 2000000, false},
		{of(1000000, 1000000), 1000000, 0, true},
		{of(0, 0), 2000000, 2000000, true},
		{of(1, 0), 1999999, 2000000, true},
		{of(1, 0), 2000001, 2000000, false},
		{of(0, 0), math.MaxInt, math.MaxInt, true},
		{of(0, 7), math.MaxInt - 1, math.MaxInt, true},
		{of(0, 7), 6, math.MaxInt, false},
		{of(1, 5), 1<<32 + 3, 9, false},
		{of(1, 5), math.MaxInt, 9, false},
	} {
		if got := nums.Has(c.l, c.n, c.most); got != c.want {
			t.Errorf("%d: %v", i, got)
		}
	}
}

// TestP4_2HasDrawn: many sets, held against the numbers counted out one by one.
func TestP4_2HasDrawn(t *testing.T) {
	r := rand.New(rand.NewSource(3))
	for range 3000 {
		l, most := drawn(r, 1+r.Intn(4), 12), r.Intn(14)-1
		var want []int
		for n := 1; n <= 40; n++ {
			in := slices.ContainsFunc(l, func(s api.Span) bool {
				ends := []int{s.From, s.To}
				for i := range ends {
					if ends[i] == 0 && most < 1 {
						return false
					}
					if ends[i] == 0 {
						ends[i] = most
					}
				}
				slices.Sort(ends)
				return ends[0] <= n && n <= ends[1]
			})
			if in {
				want = append(want, n)
			}
		}
		has(t, l, most, want...)
	}
}

// joins fails the test where l is not joined to want.
func joins(t *testing.T, l []int, want []api.Span) {
	t.Helper()
	if got := nums.Join(l); !slices.Equal(got, want) {
		t.Errorf("Join(%v): %v, not %v", l, got, want)
	}
}

// TestP4_2Join: rising, each once, as few spans as it goes.
func TestP4_2Join(t *testing.T) {
	joins(t, nil, nil)
	joins(t, []int{}, nil)
	joins(t, []int{3}, of(3, 3))
	joins(t, []int{1, 2}, of(1, 2))
	joins(t, []int{2, 1}, of(1, 2))
	joins(t, []int{1, 3}, of(1, 1, 3, 3))
	joins(t, []int{3, 2, 1, 5, 4}, of(1, 5))
	joins(t, []int{7, 7, 7}, of(7, 7))
	joins(t, []int{7, 8, 7, 8, 10, 10}, of(7, 8, 10, 10))
	joins(t, []int{5, 3, 4, 9, 12, 9}, of(3, 5, 9, 9, 12, 12))
}

// TestP4_2JoinOthers: numbers that are not 1 to 1000000 are left out.
func TestP4_2JoinOthers(t *testing.T) {
	joins(t, []int{0}, nil)
	joins(t, []int{0, -1, math.MinInt, 1000001, math.MaxInt}, nil)
	joins(t, []int{0, 1, 1000000, 1000001, 999999, 2, -1}, of(1, 2, 999999, 1000000))
	joins(t, []int{1<<32 + 5, 5, -5}, of(5, 5))
	joins(t, []int{0, 4, 0, 2, math.MaxInt}, of(2, 2, 4, 4))
}

// TestP4_2JoinMany: of more spans than a set may have, all are told.
func TestP4_2JoinMany(t *testing.T) {
	var odd, all []int
	var want []api.Span
	for n := api.MaxUID; n >= 1; n-- {
		all = append(all, n)
		if n%2 == 1 {
			odd = append(odd, n)
		}
	}
	for n := 1; n <= api.MaxUID; n += 2 {
		want = append(want, api.Span{From: n, To: n})
	}
	if got := nums.Join(odd); !slices.Equal(got, want) {
		t.Errorf("Join of all odd numbers: %d spans, not %d", len(got), len(want))
	}
	joins(t, odd[:21], want[len(want)-21:])
	if got := nums.Join(all); !slices.Equal(got, of(1, api.MaxUID)) {
		t.Errorf("Join of all numbers: %d spans", len(got))
	}
}

// TestKeeps: what is handed in stays, and what lies behind it; what is told is the caller's own (R2).
func TestKeeps(t *testing.T) {
	back := []int{5, 3, 0, 4, 1, 2}
	got := nums.Join(back[:4])
	if !slices.Equal(got, of(3, 5)) {
		t.Errorf("Join: %v", got)
	}
	got = append(got, of(1, 1)...)
	got[0].From = 1
	if !slices.Equal(back, []int{5, 3, 0, 4, 1, 2}) {
		t.Errorf("Join changed what was handed in: %v", back)
	}
	spans := of(5, 3, 0, 0, -1, -1)
	if text := nums.Text(spans[:2]); text != "5:3,*" || !nums.May(spans[:2]) {
		t.Errorf("Text: %q", text)
	}
	has(t, spans[:2], 7, 3, 4, 5, 7)
	if !slices.Equal(spans, of(5, 3, 0, 0, -1, -1)) {
		t.Errorf("what was handed in: %v", spans)
	}
	first, _ := nums.Parse("1,2")
	first[0].From = 9
	parses(t, "1,2", of(1, 1, 2, 2))
}

// TestP4_3Joined: what is joined has just these numbers, and could not be joined more; 20 spans at a time, which is what a set may have.
func TestP4_3Joined(t *testing.T) {
	r := rand.New(rand.NewSource(4))
	for range 2000 {
		top, in := 10+r.Intn(100), map[int]bool{}
		var l []int
		for range r.Intn(top) {
			n := r.Intn(top+6) - 3
			l, in[n] = append(l, n), true
		}
		before := fmt.Sprint(l)
		joined := nums.Join(l)
		if fmt.Sprint(l) != before {
			t.Fatalf("Join changed %s to %v", before, l)
		}
		for i, s := range joined {
			if s.From < 1 || s.From > s.To || i > 0 && s.From <= joined[i-1].To+1 {
				t.Fatalf("Join(%v): %v", l, joined)
			}
		}
		for n := -4; n < top+6; n++ {
			got := false
			for set := range slices.Chunk(joined, api.MaxSpans) {
				got = got || nums.Has(set, n, 0)
			}
			if got != (n >= 1 && in[n]) {
				t.Fatalf("Join(%v): %v: %d: %v", l, joined, n, got)
			}
		}
	}
}
