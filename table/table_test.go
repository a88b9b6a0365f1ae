// Package table_test asks the table by its face alone, promise by promise.
package table_test

import (
	"maps"
	"math"
	"math/rand"
	"slices"
	"testing"

	"mailsack/table"
)

// made is a table with room for most names, with each name standing for its place in names.
func made(most int, names ...string) *table.Table[string, int] {
	t := table.New[string, int](most)
	for i, k := range names {
		t.Put(k, i)
	}
	return t
}

// sure fails the test where the table is not these names, each standing for its value, by every call that tells them.
func sure(t *testing.T, x *table.Table[string, int], names []string, values []int) {
	t.Helper()
	if x.Len() != len(names) || !slices.Equal(x.Keys(), names) {
		t.Fatalf("Len %d, Keys %q, not %q", x.Len(), x.Keys(), names)
	}
	for i, k := range names {
		if at, v, ok := x.At(i); at != k || v != values[i] || !ok {
			t.Errorf("At(%d): %q %d %v, not %q %d", i, at, v, ok, k, values[i])
		}
		if v, ok := x.Get(k); v != values[i] || !ok {
			t.Errorf("Get(%q): %d %v, not %d", k, v, ok, values[i])
		}
		if at, v, ok := x.From(k); at != k || v != values[i] || !ok {
			t.Errorf("From(%q): %q %d %v, not %d", k, at, v, ok, values[i])
		}
	}
	if at, v, ok := x.At(len(names)); at != "" || v != 0 || ok {
		t.Errorf("At behind the last one: %q %d %v", at, v, ok)
	}
}

// TestP1_1New: none is there at first; room is 0 to 1000, whatever was asked for.
func TestP1_1New(t *testing.T) {
	for _, c := range []struct{ most, room int }{
		{math.MinInt, 0}, {-1000, 0}, {-1, 0}, {0, 0}, {1, 1}, {2, 2}, {999, 999}, {1000, 1000}, {1001, 1000}, {math.MaxInt, 1000},
	} {
		x := table.New[int, int](c.most)
		if x == nil || x.Len() != 0 || len(x.Keys()) != 0 {
			t.Fatalf("New(%d) is not an empty table", c.most)
		}
		for i := range 1100 {
			if ok := x.Put(i*3, i); ok != (i < c.room) {
				t.Fatalf("New(%d): Put number %d: %v", c.most, i+1, ok)
			}
		}
		if x.Len() != c.room {
			t.Errorf("New(%d): Len %d, not %d", c.most, x.Len(), c.room)
		}
	}
}

// TestP1_1Full: a full table refuses a new name and stays as it is, takes a name put again, and has room behind a Cut.
func TestP1_1Full(t *testing.T) {
	x := made(3, "b", "d", "f")
	for _, k := range []string{"", "a", "c", "e", "g"} {
		if x.Put(k, 9) {
			t.Errorf("Put(%q) into a full table", k)
		}
		sure(t, x, []string{"b", "d", "f"}, []int{0, 1, 2})
	}
	if !x.Put("d", 7) {
		t.Error("no: of a name put again")
	}
	sure(t, x, []string{"b", "d", "f"}, []int{0, 7, 2})
	if !x.Cut("b") || !x.Put("e", 4) || x.Put("b", 5) {
		t.Error("one name's room is not one name's")
	}
	sure(t, x, []string{"d", "e", "f"}, []int{7, 4, 2})
}

// TestP1_1PutAgain: a name put again is there once, with its newest value.
func TestP1_1PutAgain(t *testing.T) {
	x := table.New[string, int](5)
	for i := range 20 {
		if !x.Put("a", i) || !x.Put("b", -i) {
			t.Fatal("Put again: no")
		}
		sure(t, x, []string{"a", "b"}, []int{i, -i})
	}
}

// TestP1_1GetCut: what is there is told, and goes; what is not there is a zero value and a no.
func TestP1_1GetCut(t *testing.T) {
	x := made(9, "m", "a", "z", "")
	for _, k := range []string{"b", "mm", "zz", "\x00", "A"} {
		if v, ok := x.Get(k); v != 0 || ok {
			t.Errorf("Get(%q): %d %v", k, v, ok)
		}
		if x.Cut(k) {
			t.Errorf("Cut(%q): yes", k)
		}
	}
	sure(t, x, []string{"", "a", "m", "z"}, []int{3, 1, 0, 2})
	left, values := []string{"", "a", "m", "z"}, []int{3, 1, 0, 2}
	for _, k := range []string{"m", "z", "", "a"} {
		if !x.Cut(k) || x.Cut(k) {
			t.Errorf("Cut(%q): not once", k)
		}
		if v, ok := x.Get(k); v != 0 || ok {
			t.Errorf("Get(%q) behind Cut: %d %v", k, v, ok)
		}
		i := slices.Index(left, k)
		left, values = slices.Delete(left, i, i+1), slices.Delete(values, i, i+1)
		sure(t, x, left, values)
	}
}

// TestP1_1Keys: names are told in new memory.
func TestP1_1Keys(t *testing.T) {
	x := made(3, "c", "a", "b")
	l, other := x.Keys(), x.Keys()
	l[0], l[2] = "x", "y"
	l = append(l[:1], "z")
	if !slices.Equal(other, []string{"a", "b", "c"}) {
		t.Errorf("two answers share memory: %q", other)
	}
	sure(t, x, []string{"a", "b", "c"}, []int{1, 2, 0})
	before := x.Keys()
	x.Cut("a")
	x.Put("aa", 7)
	if !slices.Equal(before, []string{"a", "b", "c"}) {
		t.Errorf("an answer changed with the table: %q", before)
	}
}

// TestP1_1Apart: what is done to one table is not seen in another one.
func TestP1_1Apart(t *testing.T) {
	x, y := made(3, "a", "b"), made(3, "a", "b")
	x.Put("c", 2)
	x.Cut("a")
	x.Put("b", 9)
	sure(t, x, []string{"b", "c"}, []int{9, 2})
	sure(t, y, []string{"a", "b"}, []int{0, 1})
}

// TestP1_2From: the lowest name that is the asked one or above.
func TestP1_2From(t *testing.T) {
	x := made(9, "d", "b", "f")
	for _, c := range []struct {
		k, at string
		v     int
		ok    bool
	}{
		{"", "b", 1, true}, {"a", "b", 1, true}, {"b", "b", 1, true}, {"b\x00", "d", 0, true}, {"c", "d", 0, true}, {"d", "d", 0, true}, {"e", "f", 2, true}, {"f", "f", 2, true},
		{"f\x00", "", 0, false}, {"g", "", 0, false}, {"\xff", "", 0, false},
	} {
		if at, v, ok := x.From(c.k); at != c.at || v != c.v || ok != c.ok {
			t.Errorf("From(%q): %q %d %v, not %q %d %v", c.k, at, v, ok, c.at, c.v, c.ok)
		}
	}
	if at, v, ok := made(9).From(""); at != "" || v != 0 || ok {
		t.Errorf("From of an empty table: %q %d %v", at, v, ok)
	}
	x.Cut("d")
	if at, v, ok := x.From("c"); at != "f" || v != 2 || !ok {
		t.Errorf("From behind Cut: %q %d %v", at, v, ok)
	}
}

// TestP1_2At: places from 0 on; below them and behind them there is nothing.
func TestP1_2At(t *testing.T) {
	x := table.New[string, int](2)
	x.Put("b", 5)
	x.Put("a", 6)
	for _, c := range []struct {
		i  int
		k  string
		v  int
		ok bool
	}{
		{0, "a", 6, true}, {1, "b", 5, true},
		{-1, "", 0, false}, {-2, "", 0, false}, {math.MinInt, "", 0, false}, {2, "", 0, false}, {3, "", 0, false}, {1000, "", 0, false}, {math.MaxInt, "", 0, false},
	} {
		if k, v, ok := x.At(c.i); k != c.k || v != c.v || ok != c.ok {
			t.Errorf("At(%d): %q %d %v, not %q %d %v", c.i, k, v, ok, c.k, c.v, c.ok)
		}
	}
	x.Cut("a")
	if k, v, ok := x.At(1); k != "" || v != 0 || ok {
		t.Errorf("At behind the last one, where one was cut: %q %d %v", k, v, ok)
	}
	if k, v, ok := made(9).At(0); k != "" || v != 0 || ok {
		t.Errorf("At of an empty table: %q %d %v", k, v, ok)
	}
}

// nothing fails the test where a table has, or takes, anything.
func nothing(t *testing.T, x *table.Table[string, int]) {
	t.Helper()
	if x.Put("a", 1) || x.Cut("a") || x.Len() != 0 || len(x.Keys()) != 0 {
		t.Error("Put, Cut, Len or Keys is no zero value")
	}
	if v, ok := x.Get("a"); v != 0 || ok {
		t.Error("Get", v, ok)
	}
	if k, v, ok := x.From(""); k != "" || v != 0 || ok {
		t.Error("From", k, v, ok)
	}
	for _, i := range []int{-1, 0, 1} {
		if k, v, ok := x.At(i); k != "" || v != 0 || ok {
			t.Error("At", i, k, v, ok)
		}
	}
}

// TestNil: a nil table, one without room, and one that New did not make tell zero values.
func TestNil(t *testing.T) {
	nothing(t, nil)
	nothing(t, table.New[string, int](0))
	nothing(t, &table.Table[string, int]{})
}

// orders calls f with each order of l.
func orders(l []string, n int, f func()) {
	if n == len(l) {
		f()
		return
	}
	for i := n; i < len(l); i++ {
		l[n], l[i] = l[i], l[n]
		orders(l, n+1, f)
		l[n], l[i] = l[i], l[n]
	}
}

// TestP1_3Orders: the same names, put in each order there is, are the same table.
func TestP1_3Orders(t *testing.T) {
	want := []string{"", "A", "B", "a", "aa", "\xff"}
	n := 0
	l := slices.Clone(want)
	orders(l, 0, func() {
		n++
		x := table.New[string, int](len(l))
		for _, k := range l {
			x.Put(k, slices.Index(want, k))
		}
		sure(t, x, want, []int{0, 1, 2, 3, 4, 5})
	})
	if n != 720 {
		t.Errorf("%d orders", n)
	}
}

// number, word: types of names of a project's own.
type number int8
type word string

// rise fails the test where names, put in the order in which they stand, do not come in the order of want.
func rise[K interface {
	~int8 | ~uint64 | ~float64 | ~string
}](t *testing.T, names, want []K) {
	t.Helper()
	x := table.New[K, struct{}](1000)
	for range 2 {
		for _, k := range names {
			if !x.Put(k, struct{}{}) {
				t.Error("no:", k)
			}
		}
	}
	if !slices.EqualFunc(x.Keys(), want, func(a, b K) bool { return a == b || a != a && b != b }) {
		t.Error(x.Keys(), "not", want)
	}
	for _, k := range names {
		if _, ok := x.Get(k); !ok {
			t.Error("Get", k)
		}
		if !x.Cut(k) {
			t.Error("Cut", k)
		}
	}
}

// TestP1_3Kinds: names of each ordered kind are in order; texts byte by byte.
func TestP1_3Kinds(t *testing.T) {
	rise(t, []number{5, -128, 127, 0, -1}, []number{-128, -1, 0, 5, 127})
	rise(t, []uint64{1 << 63, 0, 1<<64 - 1, 7}, []uint64{0, 7, 1 << 63, 1<<64 - 1})
	rise(t, []word{"é", "z", "Z", "\x7f", "", "zz", "e"}, []word{"", "Z", "e", "z", "zz", "\x7f", "é"})
	inf, no := math.Inf(1), math.NaN()
	rise(t, []float64{2.5, no, inf, -1, -inf, 0}, []float64{no, -inf, -1, 0, 2.5, inf})
}

// TestP1_3Long: a long row of calls, held against a plain map.
func TestP1_3Long(t *testing.T) {
	const room = 40
	r := rand.New(rand.NewSource(1))
	x, plain := table.New[int, int](room), map[int]int{}
	for step := range 20000 {
		k := r.Intn(60) - 30
		v, was := plain[k]
		switch r.Intn(5) {
		case 0, 1, 2:
			may := was || len(plain) < room
			if x.Put(k, step) != may {
				t.Fatalf("step %d: Put(%d)", step, k)
			}
			if may {
				plain[k] = step
			}
		case 3:
			if x.Cut(k) != was {
				t.Fatalf("step %d: Cut(%d)", step, k)
			}
			delete(plain, k)
		default:
			if got, ok := x.Get(k); got != v || ok != was {
				t.Fatalf("step %d: Get(%d): %d %v", step, k, got, ok)
			}
		}
		names := slices.Sorted(maps.Keys(plain))
		if x.Len() != len(names) || !slices.Equal(x.Keys(), names) {
			t.Fatalf("step %d: %v, not %v", step, x.Keys(), names)
		}
		i, _ := slices.BinarySearch(names, k)
		at, value, ok := x.From(k)
		if ok != (i < len(names)) || ok && (at != names[i] || value != plain[at]) {
			t.Fatalf("step %d: From(%d): %d %d %v", step, k, at, value, ok)
		}
	}
}
