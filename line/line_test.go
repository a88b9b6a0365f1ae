// Package line_test asks the line by its face alone, promise by promise.
package line_test

import (
	"math"
	"math/rand"
	"slices"
	"strconv"
	"testing"

	"mailsack/line"
)

// made is a line with room for most things, in which these wait.
func made(t *testing.T, most int, things ...string) *line.Line[string] {
	t.Helper()
	l := line.New[string](most)
	for _, x := range things {
		if !l.Put(x) {
			t.Fatalf("Put(%q): no", x)
		}
	}
	return l
}

// counts fails the test where the line does not tell so many things and so much room.
func counts[T any](t *testing.T, l *line.Line[T], n, room int) {
	t.Helper()
	if l.Len() != n || l.Room() != room {
		t.Fatalf("Len %d, Room %d, not %d and %d", l.Len(), l.Room(), n, room)
	}
}

// takes fails the test where these are not taken, one by one, and then nothing.
func takes(t *testing.T, l *line.Line[string], things ...string) {
	t.Helper()
	for i, want := range things {
		if x, ok := l.Take(); x != want || !ok {
			t.Fatalf("Take number %d: %q %v, not %q", i+1, x, ok, want)
		}
	}
	for range 2 {
		if x, ok := l.Take(); x != "" || ok {
			t.Fatalf("Take behind the last one: %q %v", x, ok)
		}
	}
}

// TestP2_1New: nothing waits at first; room is 0 to 1000, whatever was asked for.
func TestP2_1New(t *testing.T) {
	for _, c := range []struct{ most, room int }{
		{math.MinInt, 0}, {-1000, 0}, {-1, 0}, {0, 0}, {1, 1}, {2, 2}, {60, 60}, {999, 999}, {1000, 1000}, {1001, 1000}, {math.MaxInt, 1000},
	} {
		l := line.New[int](c.most)
		if l == nil {
			t.Fatalf("New(%d) is no line", c.most)
		}
		counts(t, l, 0, c.room)
		if x, ok := l.Take(); x != 0 || ok || len(l.All()) != 0 {
			t.Fatalf("New(%d): something waits: %d %v", c.most, x, ok)
		}
		for i := range 1100 {
			if ok := l.Put(i); ok != (i < c.room) {
				t.Fatalf("New(%d): Put number %d: %v", c.most, i+1, ok)
			}
			counts(t, l, min(i+1, c.room), max(c.room-i-1, 0))
		}
	}
}

// TestP2_1Full: a full line refuses a thing and stays as it is; what is taken makes room for one.
func TestP2_1Full(t *testing.T) {
	l := made(t, 3, "a", "b", "c")
	for _, x := range []string{"", "a", "d"} {
		if l.Put(x) {
			t.Errorf("Put(%q) into a full line", x)
		}
		counts(t, l, 3, 0)
	}
	if x, ok := l.Take(); x != "a" || !ok {
		t.Errorf("Take: %q %v", x, ok)
	}
	counts(t, l, 2, 1)
	if !l.Put("d") || l.Put("e") {
		t.Error("one thing's room is not one thing's")
	}
	takes(t, l, "b", "c", "d")
	counts(t, l, 0, 3)
}

// TestP2_1Take: of no thing there is none; a zero value that was put is one.
func TestP2_1Take(t *testing.T) {
	l := made(t, 4)
	takes(t, l)
	l.Put("")
	counts(t, l, 1, 3)
	if x, ok := l.Take(); x != "" || !ok {
		t.Errorf("Take of an empty text: %q %v", x, ok)
	}
	takes(t, l)
	counts(t, l, 0, 4)
	if !l.Put("a") {
		t.Error("Put behind the last Take: no")
	}
	takes(t, l, "a")
}

// TestP2_1Again: the same thing waits as often as it was put.
func TestP2_1Again(t *testing.T) {
	takes(t, made(t, 4, "a", "a", "b", "a"), "a", "a", "b", "a")
}

// TestP2_1All: all that waits, in order; it is gone, and there is room again.
func TestP2_1All(t *testing.T) {
	l := made(t, 3, "b", "a", "c")
	if got := l.All(); !slices.Equal(got, []string{"b", "a", "c"}) {
		t.Errorf("All: %q", got)
	}
	counts(t, l, 0, 3)
	takes(t, l)
	if got := l.All(); len(got) != 0 {
		t.Errorf("All again: %q", got)
	}
	for _, x := range []string{"d", "e", "f"} {
		if !l.Put(x) {
			t.Errorf("Put(%q) behind All: no", x)
		}
	}
	if x, ok := l.Take(); x != "d" || !ok {
		t.Errorf("Take behind All: %q %v", x, ok)
	}
	if got := l.All(); !slices.Equal(got, []string{"e", "f"}) {
		t.Errorf("All behind Take: %q", got)
	}
}

// TestP2_1AllIsNew: what All tells is the caller's own.
func TestP2_1AllIsNew(t *testing.T) {
	l := made(t, 3, "a", "b")
	first := l.All()
	for _, x := range []string{"c", "d", "e"} {
		l.Put(x)
	}
	if !slices.Equal(first, []string{"a", "b"}) {
		t.Errorf("an answer changed with the line: %q", first)
	}
	first[0] = "x"
	_ = append(first, "y", "z")
	if got := l.All(); !slices.Equal(got, []string{"c", "d", "e"}) {
		t.Errorf("the line changed with an answer: %q", got)
	}
}

// TestP2_1Apart: what is done to one line is not seen in another one, nor in what was put.
func TestP2_1Apart(t *testing.T) {
	things := []string{"a", "b", "c"}
	x, y := made(t, 3, things...), made(t, 3, things...)
	things[1] = "z"
	x.Take()
	x.Put("d")
	takes(t, y, "a", "b", "c")
	takes(t, x, "b", "c", "d")
	thing := "a"
	x.Put(thing)
	thing = "b"
	takes(t, x, "a")
}

// nothing fails the test where anything waits in a line, or may wait there.
func nothing(t *testing.T, l *line.Line[string]) {
	t.Helper()
	for range 2 {
		if l.Put("a") {
			t.Error("Put: yes")
		}
		counts(t, l, 0, 0)
		if x, ok := l.Take(); x != "" || ok {
			t.Errorf("Take: %q %v", x, ok)
		}
		if got := l.All(); len(got) != 0 {
			t.Errorf("All: %q", got)
		}
	}
}

// TestNil: a nil line, one without room, and one that New did not make tell zero values, and nobody waits.
func TestNil(t *testing.T) {
	nothing(t, nil)
	nothing(t, line.New[string](0))
	nothing(t, line.New[string](-1))
	nothing(t, &line.Line[string]{})
}

// same fails the test where things of a kind are not taken as they were put.
func same[T comparable](t *testing.T, things ...T) {
	t.Helper()
	l := line.New[T](len(things))
	for _, x := range things {
		l.Put(x)
	}
	for i, want := range things {
		if x, ok := l.Take(); x != want || !ok {
			t.Errorf("thing %d of %T: %v", i, want, ok)
		}
	}
	for _, x := range things {
		l.Put(x)
	}
	if !slices.Equal(l.All(), things) {
		t.Errorf("All of %T", things)
	}
}

// TestP2_2Kinds: things of any kind may wait, great ones and nil ones, too.
func TestP2_2Kinds(t *testing.T) {
	same(t, 3, -1, 0, math.MaxInt)
	same(t, struct{}{}, struct{}{})
	same(t, struct {
		uid  int
		text string
	}{7, "seven"})
	same[any](t, 1, nil, "a", 2.5)
	same(t, new(1), nil, new(1))
	same(t, [1 << 16]byte{1}, [1 << 16]byte{1<<16 - 1: 2})
	l := line.New[func() string](2)
	for _, x := range []string{"a", "b"} {
		l.Put(func() string { return x })
	}
	for i, f := range l.All() {
		if want := []string{"a", "b"}[i]; f() != want {
			t.Errorf("function %d: %q, not %q", i, f(), want)
		}
	}
}

// TestP2_2Round: far more goes through a line than there is room for at once.
func TestP2_2Round(t *testing.T) {
	l := made(t, 3, "0", "1")
	for i := 2; i < 5000; i++ {
		if !l.Put(strconv.Itoa(i)) {
			t.Fatalf("Put number %d: no", i+1)
		}
		if x, ok := l.Take(); x != strconv.Itoa(i-2) || !ok {
			t.Fatalf("Take number %d: %q %v", i-1, x, ok)
		}
		counts(t, l, 2, 1)
	}
	takes(t, l, "4998", "4999")
}

// TestP2_2Long: a long row of calls, held against a plain list.
func TestP2_2Long(t *testing.T) {
	const room = 12
	r := rand.New(rand.NewSource(1))
	l := line.New[int](room)
	var plain []int
	for step := range 20000 {
		switch do := r.Intn(40); {
		case do == 0:
			if got := l.All(); !slices.Equal(got, plain) {
				t.Fatalf("step %d: All %v, not %v", step, got, plain)
			}
			plain = nil
		case do < 19:
			x, ok := l.Take()
			if ok != (len(plain) > 0) || ok && x != plain[0] || !ok && x != 0 {
				t.Fatalf("step %d: Take %d %v", step, x, ok)
			}
			if ok {
				plain = plain[1:]
			}
		default:
			may := len(plain) < room
			if l.Put(step) != may {
				t.Fatalf("step %d: Put", step)
			}
			if may {
				plain = append(plain, step)
			}
		}
		counts(t, l, len(plain), room-len(plain))
	}
}
