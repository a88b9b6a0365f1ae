// Package rack_test asks the rack by its face alone, promise by promise.
package rack_test

import (
	"bytes"
	"math"
	"math/rand"
	"reflect"
	"slices"
	"strconv"
	"strings"
	"testing"

	"mailsack/api"
	"mailsack/rack"
)

// most is the greatest room that a rack may have.
const most = 1000000

// fails fails the test where a call did not answer as it should.
func fails(t *testing.T, what string, got, want api.Errno) {
	t.Helper()
	if got != want {
		t.Fatalf("%s: error %d, not %d", what, got, want)
	}
}

// write does a Write of each name and text, such as "a=one", which must be OK.
func write(t *testing.T, r *rack.Rack, files ...string) {
	t.Helper()
	for _, f := range files {
		name, data, _ := strings.Cut(f, "=")
		fails(t, "Write "+f, r.Write(name, []byte(data)), api.OK)
	}
}

// cut does a Cut of each name, which must be OK.
func cut(t *testing.T, r *rack.Rack, names ...string) {
	t.Helper()
	for _, name := range names {
		fails(t, "Cut "+name, r.Cut(name), api.OK)
	}
}

// flushed is a rack of that room, on which these files are sure.
func flushed(t *testing.T, room int, files ...string) *rack.Rack {
	t.Helper()
	r := rack.New(room)
	write(t, r, files...)
	fails(t, "Flush", r.Flush(), api.OK)
	return r
}

// read is what one reads, such as "a=one b=".
func read(r *rack.Rack) string {
	var l []string
	for _, name := range r.Names() {
		data, ok := r.Read(name)
		if !ok {
			data = []byte("?")
		}
		l = append(l, name+"="+string(data))
	}
	return strings.Join(l, " ")
}

// sure is what is sure, likewise.
func sure(r *rack.Rack) string {
	var l []string
	for _, f := range r.Sure() {
		l = append(l, f.Name+"="+string(f.Data))
	}
	return strings.Join(l, " ")
}

// stands fails the test where other files are read, or are sure, or where other numbers of writes are loose, or were done.
func stands(t *testing.T, r *rack.Rack, wantRead, wantSure string, loose, writes int) {
	t.Helper()
	if got := read(r); got != wantRead {
		t.Fatalf("read: %q, not %q", got, wantRead)
	}
	if got := sure(r); got != wantSure {
		t.Fatalf("sure: %q, not %q", got, wantSure)
	}
	if r.Loose() != loose || r.Writes() != writes {
		t.Fatalf("Loose %d, Writes %d, not %d and %d", r.Loose(), r.Writes(), loose, writes)
	}
}

// refused fails the test where a call tells another error, or changes anything.
func refused(t *testing.T, r *rack.Rack, what string, want api.Errno, call func() api.Errno) {
	t.Helper()
	before := []any{read(r), r.Sure(), r.Loose(), r.Writes(), r.Size(), r.Room(), r.Down()}
	fails(t, what, call(), want)
	if after := []any{read(r), r.Sure(), r.Loose(), r.Writes(), r.Size(), r.Room(), r.Down()}; !reflect.DeepEqual(after, before) {
		t.Fatalf("%s, refused, changed %v to %v", what, before, after)
	}
}

// TestP13_1New: no files at first; room is 0 to 1000000, whatever was asked for.
func TestP13_1New(t *testing.T) {
	for _, c := range []struct{ room, want int }{
		{math.MinInt, 0}, {-most, 0}, {-1, 0}, {0, 0}, {1, 1}, {9, 9}, {999999, 999999}, {most, most}, {most + 1, most}, {math.MaxInt, most},
	} {
		r := rack.New(c.room)
		if r.Room() != c.want || r.Size() != 0 || r.Down() {
			t.Errorf("New(%d): Room %d, Size %d, Down %v", c.room, r.Room(), r.Size(), r.Down())
		}
		stands(t, r, "", "", 0, 0)
		if data, ok := r.Read("a"); len(data) != 0 || ok {
			t.Errorf("New(%d): Read %q %v", c.room, data, ok)
		}
	}
}

// TestP13_1Write: a file stands there, whatever bytes it is; in the place of the one of that name.
func TestP13_1Write(t *testing.T) {
	r := rack.New(most)
	write(t, r, "b=two", "a=one", "c=")
	stands(t, r, "a=one b=two c=", "", 3, 3)
	write(t, r, "b=", "c=three", "a=one")
	stands(t, r, "a=one b= c=three", "", 6, 6)
	all := make([]byte, 256)
	for i := range all {
		all[i] = byte(i)
	}
	fails(t, "Write", r.Write("d", all), api.OK)
	if data, ok := r.Read("d"); !bytes.Equal(data, all) || !ok {
		t.Errorf("Read: %v %v", data, ok)
	}
	for _, data := range [][]byte{nil, {}} {
		fails(t, "Write of nothing", r.Write("d", data), api.OK)
		if data, ok := r.Read("d"); len(data) != 0 || !ok {
			t.Errorf("Read of nothing: %v %v", data, ok)
		}
	}
}

// TestP13_1Names: byte by byte, rising, in whatever order they were written.
func TestP13_1Names(t *testing.T) {
	want := []string{"\x00", "\x00\x00", " ", "=redo", "A", "B", "a", "a\x00", "a.b", "aa", "b", "\x80", "\xc3\xa4", "\xff", "\xff\xff"}
	for seed := range int64(20) {
		r := rack.New(most)
		for _, i := range rand.New(rand.NewSource(seed)).Perm(len(want)) {
			fails(t, "Write", r.Write(want[i], []byte{byte(i)}), api.OK)
		}
		if got := r.Names(); !slices.Equal(got, want) {
			t.Fatalf("Names: %q", got)
		}
		fails(t, "Flush", r.Flush(), api.OK)
		for i, f := range r.Sure() {
			if f.Name != want[i] || len(f.Data) != 1 || f.Data[0] != byte(i) {
				t.Fatalf("Sure: file %d is %q", i, f.Name)
			}
		}
	}
}

// TestP13_1Arg: names have 1 to MaxName bytes, data at most MaxBytes.
func TestP13_1Arg(t *testing.T) {
	r := flushed(t, most, "a=one")
	long := strings.Repeat("n", api.MaxName)
	wide := strings.Repeat("ä", api.MaxName/2)
	for _, name := range []string{"", long + "n", wide + "n", strings.Repeat("n", 1000)} {
		refused(t, r, "Write "+name, api.ErrArg, func() api.Errno { return r.Write(name, []byte("x")) })
		refused(t, r, "Cut "+name, api.ErrArg, func() api.Errno { return r.Cut(name) })
		if data, ok := r.Read(name); len(data) != 0 || ok {
			t.Errorf("Read %q: %q %v", name, data, ok)
		}
	}
	for _, name := range []string{"a", "b"} {
		refused(t, r, "Write of too many bytes", api.ErrArg, func() api.Errno { return r.Write(name, make([]byte, api.MaxBytes+1)) })
	}
	for _, name := range []string{"n", long, wide} {
		fails(t, "Write "+name, r.Write(name, make([]byte, api.MaxBytes)), api.OK)
		cut(t, r, name)
	}
	stands(t, r, "a=one", "a=one", 6, 7)
}

// TestP13_1Cut: what is cut is gone, and may come again; what is not there can't be cut.
func TestP13_1Cut(t *testing.T) {
	r := flushed(t, most, "a=one", "b=two", "c=three")
	cut(t, r, "b")
	stands(t, r, "a=one c=three", "a=one b=two c=three", 1, 4)
	for _, name := range []string{"b", "d", "A", "a\x00", strings.Repeat("n", api.MaxName)} {
		refused(t, r, "Cut "+name, api.ErrNone, func() api.Errno { return r.Cut(name) })
		if data, ok := r.Read(name); len(data) != 0 || ok {
			t.Errorf("Read %q: %q %v", name, data, ok)
		}
	}
	cut(t, r, "a", "c")
	stands(t, r, "", "a=one b=two c=three", 3, 6)
	write(t, r, "b=again")
	stands(t, r, "b=again", "a=one b=two c=three", 4, 7)
}

// TestP13_1Costs: a file costs its name's bytes, its data's, and 8; the rack tells what is read, and what room that leaves.
func TestP13_1Costs(t *testing.T) {
	r := rack.New(100)
	size := func(want int) {
		t.Helper()
		if r.Size() != want || r.Room() != 100-want {
			t.Fatalf("Size %d, Room %d, not %d and %d", r.Size(), r.Room(), want, 100-want)
		}
	}
	size(0)
	write(t, r, "a=")
	size(9)
	write(t, r, "name=data", "b=x")
	size(9 + 16 + 10)
	write(t, r, "name=")
	size(9 + 12 + 10)
	write(t, r, "ä=ä")
	size(9 + 12 + 10 + 12)
	fails(t, "Flush", r.Flush(), api.OK)
	size(9 + 12 + 10 + 12)
	cut(t, r, "name")
	size(9 + 10 + 12)
	r.Crash(nil)
	size(9 + 12 + 10 + 12)
}

// TestP13_1FullRoom: up to all the room, and no byte more; a file in another one's place takes its room.
func TestP13_1FullRoom(t *testing.T) {
	full := func(r *rack.Rack, name, data string) {
		t.Helper()
		refused(t, r, "Write "+name, api.ErrFull, func() api.Errno { return r.Write(name, []byte(data)) })
	}
	for _, room := range []int{0, 1, 8} {
		full(rack.New(room), "a", "")
	}
	write(t, rack.New(9), "a=")
	full(rack.New(9), "a", "x")
	full(rack.New(9), "ab", "")
	r := flushed(t, 40, "a=1234567")
	full(r, "b", "1234567890123456")
	write(t, r, "b=123456789012345")
	full(r, "c", "")
	full(r, "a", "12345678")
	full(r, "b", "1234567890123456")
	write(t, r, "a=7654321", "b=")
	full(r, "c", "1234567")
	write(t, r, "c=123456")
	if r.Room() != 0 {
		t.Errorf("Room %d", r.Room())
	}
	cut(t, r, "b")
	write(t, r, "d=")
	stands(t, r, "a=7654321 c=123456 d=", "a=1234567", 6, 7)
}

// TestP13_1FullFiles: up to MaxFiles names; one that is there may be written again, and one that is gone makes place.
func TestP13_1FullFiles(t *testing.T) {
	r := rack.New(most)
	for i := range api.MaxFiles {
		write(t, r, "f"+strconv.Itoa(i))
	}
	for _, name := range []string{"a", "f", "f40", "g"} {
		refused(t, r, "Write "+name, api.ErrFull, func() api.Errno { return r.Write(name, nil) })
	}
	write(t, r, "f39=x", "f0=x")
	cut(t, r, "f20")
	write(t, r, "a=x")
	refused(t, r, "Write f20", api.ErrFull, func() api.Errno { return r.Write("f20", nil) })
	if len(r.Names()) != api.MaxFiles {
		t.Errorf("%d names", len(r.Names()))
	}
}

// TestP13_1FirstError: ErrArg, then ErrDown, then ErrFull or ErrNone; only then the fuse.
func TestP13_1FirstError(t *testing.T) {
	r := flushed(t, 20, "a=")
	long := strings.Repeat("n", api.MaxName+1)
	many := make([]byte, api.MaxBytes+1)
	r.Fuse(0)
	ask := func(full, none, done api.Errno) {
		t.Helper()
		for range 2 {
			refused(t, r, "Write of no name", api.ErrArg, func() api.Errno { return r.Write("", nil) })
			refused(t, r, "Write of a long name", api.ErrArg, func() api.Errno { return r.Write(long, nil) })
			refused(t, r, "Write of many bytes", api.ErrArg, func() api.Errno { return r.Write("a", many) })
			refused(t, r, "Cut of no name", api.ErrArg, func() api.Errno { return r.Cut("") })
			refused(t, r, "Cut of a long name", api.ErrArg, func() api.Errno { return r.Cut(long) })
			refused(t, r, "Write of too much", full, func() api.Errno { return r.Write("b", many[:20]) })
			refused(t, r, "Cut of none", none, func() api.Errno { return r.Cut("b") })
			refused(t, r, "Flush", done, r.Flush)
		}
	}
	ask(api.ErrFull, api.ErrNone, api.OK)
	fails(t, "Write at the fuse", r.Write("a", nil), api.ErrDown)
	ask(api.ErrDown, api.ErrDown, api.ErrDown)
}

// TestP13_2Counts: what is done counts, as often as it is done; what is refused doesn't, nor does anything else.
func TestP13_2Counts(t *testing.T) {
	r := rack.New(most)
	counts := func(loose, writes int) {
		t.Helper()
		if r.Loose() != loose || r.Writes() != writes {
			t.Fatalf("Loose %d, Writes %d, not %d and %d", r.Loose(), r.Writes(), loose, writes)
		}
	}
	write(t, r, "a=one", "a=one", "a=two")
	counts(3, 3)
	cut(t, r, "a")
	counts(4, 4)
	r.Cut("a")
	r.Cut("")
	r.Write("", nil)
	r.Write("a", make([]byte, api.MaxBytes+1))
	r.Read("a")
	r.Fuse(5)
	counts(4, 4)
	fails(t, "Flush", r.Flush(), api.OK)
	counts(0, 4)
	fails(t, "Flush again", r.Flush(), api.OK)
	write(t, r, "b=")
	counts(1, 5)
	r.Crash(nil)
	counts(0, 5)
	write(t, r, "b=")
	counts(1, 6)
}

// TestP13_2Fuse: n writes are done, the one behind them is not, and there is no power; calls that are no writes do not count.
func TestP13_2Fuse(t *testing.T) {
	for n := range 6 {
		for _, last := range []string{"write", "new", "cut"} {
			r := flushed(t, most, "a=one")
			r.Fuse(n)
			for i := range n {
				if r.Down() {
					t.Fatalf("Fuse(%d): down behind %d writes", n, i)
				}
				r.Cut("none")
				r.Write("", nil)
				r.Read("a")
				r.Flush()
				write(t, r, "a="+strconv.Itoa(i))
			}
			fails(t, "Flush", r.Flush(), api.OK)
			before := sure(r)
			e := api.OK
			switch last {
			case "write":
				e = r.Write("a", []byte("last"))
			case "new":
				e = r.Write("new", nil)
			case "cut":
				e = r.Cut("a")
			}
			fails(t, last, e, api.ErrDown)
			if !r.Down() {
				t.Fatalf("Fuse(%d): not down", n)
			}
			stands(t, r, "a=?", before, 0, n+1)
			r.Crash([]byte{1})
			stands(t, r, before, before, 0, n+1)
		}
	}
}

// TestP13_2Down: without power nothing is read or written, and the rest is told as it stood.
func TestP13_2Down(t *testing.T) {
	r := flushed(t, 100, "a=one", "b=two")
	cut(t, r, "b")
	r.Fuse(1)
	write(t, r, "c=three")
	fails(t, "Write", r.Write("a", nil), api.ErrDown)
	for range 2 {
		for _, name := range []string{"a", "b", "c", "d", ""} {
			if data, ok := r.Read(name); len(data) != 0 || ok {
				t.Errorf("Read %q: %q %v", name, data, ok)
			}
		}
		refused(t, r, "Write a", api.ErrDown, func() api.Errno { return r.Write("a", nil) })
		refused(t, r, "Write d", api.ErrDown, func() api.Errno { return r.Write("d", nil) })
		refused(t, r, "Cut a", api.ErrDown, func() api.Errno { return r.Cut("a") })
		refused(t, r, "Cut d", api.ErrDown, func() api.Errno { return r.Cut("d") })
		refused(t, r, "Flush", api.ErrDown, r.Flush)
		r.Fuse(-1)
		r.Fuse(10)
		stands(t, r, "a=? c=?", "a=one b=two", 2, 4)
		if r.Size() != 12+14 || r.Room() != 100-26 || !r.Down() {
			t.Errorf("Size %d, Room %d, Down %v", r.Size(), r.Room(), r.Down())
		}
	}
}

// TestP13_2Replaced: a later Fuse replaces an earlier one, and one below 0 is none.
func TestP13_2Replaced(t *testing.T) {
	holds := func(r *rack.Rack, n int) {
		t.Helper()
		for range n {
			write(t, r, "a=")
		}
	}
	for _, none := range []int{-1, -2, math.MinInt} {
		r := rack.New(most)
		r.Fuse(none)
		holds(r, 50)
		r.Fuse(0)
		r.Fuse(none)
		holds(r, 50)
	}
	for _, c := range []struct{ first, done, then int }{{0, 0, 3}, {9, 4, 2}, {2, 2, 5}, {3, 1, 0}, {math.MaxInt, 5, 1}, {-1, 2, 2}} {
		r := rack.New(most)
		r.Fuse(c.first)
		holds(r, c.done)
		r.Fuse(c.then)
		holds(r, c.then)
		fails(t, "the write behind", r.Write("a", nil), api.ErrDown)
	}
	r := rack.New(most)
	r.Fuse(math.MaxInt)
	holds(r, 500)
}

// TestP13_2Flush: all that was loose is sure, and no crash takes it.
func TestP13_2Flush(t *testing.T) {
	r := flushed(t, most, "a=one", "b=two")
	write(t, r, "a=three", "c=")
	cut(t, r, "b")
	stands(t, r, "a=three c=", "a=one b=two", 3, 5)
	fails(t, "Flush", r.Flush(), api.OK)
	stands(t, r, "a=three c=", "a=three c=", 0, 5)
	r.Crash(nil)
	stands(t, r, "a=three c=", "a=three c=", 0, 5)
}

// TestP13_3Picks: for any picks of some writes, what was sure with those done on it that were picked.
func TestP13_3Picks(t *testing.T) {
	writes := []api.Change{
		{Name: "a", Data: []byte("x")}, {Name: "c", Data: []byte("y")}, {Name: "b", Cut: true},
		{Name: "c", Data: nil}, {Name: "a", Cut: true}, {Name: "b", Data: []byte("z")}, {Name: "c", Cut: true},
	}
	for set := range 1 << len(writes) {
		r := flushed(t, most, "a=1", "b=2")
		want := map[string]string{"a": "1", "b": "2"}
		picks := make([]byte, len(writes))
		for k, w := range writes {
			// Bits above the first one say nothing.
			picks[k] = byte(set>>k&1 | k<<1 | set<<4&0xf0)
			if w.Cut {
				cut(t, r, w.Name)
			} else {
				fails(t, "Write", r.Write(w.Name, w.Data), api.OK)
			}
			if picks[k]&1 == 1 {
				change(want, w)
			}
		}
		r.Crash(picks)
		stands(t, r, told(want), told(want), 0, 9)
		if r.Down() {
			t.Fatal("no power behind a crash")
		}
	}
}

// change does w on plain files.
func change(files map[string]string, w api.Change) {
	if w.Cut {
		delete(files, w.Name)
	} else {
		files[w.Name] = string(w.Data)
	}
}

// told is what read and sure tell of plain files.
func told(files map[string]string) string {
	var l []string
	for name, data := range files {
		l = append(l, name+"="+data)
	}
	// No name in these tests is another one's beginning.
	slices.Sort(l)
	return strings.Join(l, " ")
}

// TestP13_3Lack: a write stays only where there is a pick for it; picks behind the last write say nothing.
func TestP13_3Lack(t *testing.T) {
	for n := range 7 {
		r := rack.New(most)
		write(t, r, "a=1", "b=2", "c=3")
		r.Crash(bytes.Repeat([]byte{1}, n))
		stands(t, r, []string{"", "a=1", "a=1 b=2", "a=1 b=2 c=3"}[min(n, 3)], sure(r), 0, 3)
	}
	for _, picks := range [][]byte{nil, {}, {0}, {2}, {254, 0}} {
		r := rack.New(most)
		write(t, r, "a=1")
		r.Crash(picks)
		stands(t, r, "", "", 0, 1)
	}
	for _, picks := range [][]byte{{1}, {3}, {255, 0}, {129, 1, 1}} {
		r := rack.New(most)
		write(t, r, "a=1")
		r.Crash(picks)
		stands(t, r, "a=1", "a=1", 0, 1)
	}
}

// TestP13_3Power: it comes again, with no fuse, whether it had gone or not.
func TestP13_3Power(t *testing.T) {
	for _, fuse := range []int{-1, 0, 1, 2, 5} {
		for _, later := range []bool{false, true} {
			r := flushed(t, most, "a=1")
			r.Fuse(fuse)
			r.Write("b", nil)
			r.Write("c", nil)
			if later {
				r.Fuse(3)
			}
			if r.Down() != (fuse == 0 || fuse == 1) {
				t.Fatalf("Fuse(%d): Down %v", fuse, r.Down())
			}
			r.Crash(nil)
			if r.Down() {
				t.Fatal("no power behind a crash")
			}
			stands(t, r, "a=1", "a=1", 0, r.Writes())
			for range 20 {
				write(t, r, "a=2")
			}
			fails(t, "Flush", r.Flush(), api.OK)
			stands(t, r, "a=2", "a=2", 0, r.Writes())
		}
	}
}

// TestP13_3Again: a write that did not stay stays away, and one that stayed is sure.
func TestP13_3Again(t *testing.T) {
	r := rack.New(most)
	write(t, r, "a=1", "b=2", "a=3")
	r.Crash([]byte{1, 0, 0})
	r.Crash([]byte{1, 1, 1})
	stands(t, r, "a=1", "a=1", 0, 3)
	cut(t, r, "a")
	r.Crash([]byte{0})
	stands(t, r, "a=1", "a=1", 0, 4)
	write(t, r, "b=4")
	r.Crash([]byte{1})
	stands(t, r, "a=1 b=4", "a=1 b=4", 0, 5)
}

// TestP13_3Over: room is not asked again: what stays may cost more than it, and then a write must bring all below it.
func TestP13_3Over(t *testing.T) {
	r := flushed(t, 30, "a=123456")
	cut(t, r, "a")
	write(t, r, "b=123456")
	write(t, r, "c=")
	r.Crash([]byte{0, 1, 1})
	stands(t, r, "a=123456 b=123456 c=", "a=123456 b=123456 c=", 0, 4)
	if r.Size() != 39 || r.Room() != -9 {
		t.Fatalf("Size %d, Room %d", r.Size(), r.Room())
	}
	refused(t, r, "Write d", api.ErrFull, func() api.Errno { return r.Write("d", nil) })
	refused(t, r, "Write a", api.ErrFull, func() api.Errno { return r.Write("a", nil) })
	cut(t, r, "c")
	write(t, r, "a=")
	stands(t, r, "a= b=123456", "a=123456 b=123456 c=", 2, 6)
}

// TestP13_3OverFiles: so may there be more than MaxFiles names.
func TestP13_3OverFiles(t *testing.T) {
	r := rack.New(most)
	for i := range api.MaxFiles {
		write(t, r, "f"+strconv.Itoa(i))
	}
	fails(t, "Flush", r.Flush(), api.OK)
	cut(t, r, "f0", "f1")
	write(t, r, "g0", "g1")
	r.Crash([]byte{0, 0, 1, 1})
	if len(r.Names()) != api.MaxFiles+2 || len(r.Sure()) != api.MaxFiles+2 {
		t.Fatalf("%d names, %d sure", len(r.Names()), len(r.Sure()))
	}
	refused(t, r, "Write g0", api.ErrFull, func() api.Errno { return r.Write("g0", nil) })
	cut(t, r, "f0", "f1")
	write(t, r, "g0=x")
	refused(t, r, "Write g2", api.ErrFull, func() api.Errno { return r.Write("g2", nil) })
}

// TestMemory: what is handed in is neither changed nor kept, and what is told is the caller's own.
func TestMemory(t *testing.T) {
	spare := []byte("one, and behind it")
	data, picks := spare[:3], []byte{1, 0}
	r := flushed(t, most, "b=two")
	fails(t, "Write", r.Write("a", data), api.OK)
	fails(t, "Write", r.Write("b", data), api.OK)
	spill := func(b []byte) {
		if len(b) > 0 {
			b[0] = '!'
		}
		_ = append(b, "spilt"...)
	}
	ask := func(wantRead, wantSure string) {
		t.Helper()
		for range 2 {
			for _, name := range r.Names() {
				b, _ := r.Read(name)
				spill(b)
			}
			l := r.Sure()
			for i := range l {
				spill(l[i].Data)
				l[i].Name = "!"
			}
			names := r.Names()
			names[0] = "!"
			_, _ = append(names, "spilt"), append(l, api.File{Name: "spilt"})
			if read(r) != wantRead || sure(r) != wantSure {
				t.Fatalf("an answer changed the rack: %q, %q", read(r), sure(r))
			}
		}
	}
	spill(data)
	ask("a=one b=one", "b=two")
	r.Crash(picks)
	if !bytes.Equal(picks, []byte{1, 0}) {
		t.Errorf("Crash changed its picks: %v", picks)
	}
	ask("a=one b=two", "a=one b=two")
	first, names, files := "", r.Names(), r.Sure()
	if b, ok := r.Read("a"); ok {
		write(t, r, "a=six", "0=")
		fails(t, "Flush", r.Flush(), api.OK)
		cut(t, r, "b")
		first = string(b)
	}
	if first != "one" || !slices.Equal(names, []string{"a", "b"}) || string(files[0].Data)+string(files[1].Data) != "onetwo" {
		t.Error("an answer changed with the rack")
	}
}

// TestApart: what is done to one rack is not seen on another one.
func TestApart(t *testing.T) {
	x, y := flushed(t, most, "a=1", "b=2"), flushed(t, most, "a=1", "b=2")
	cut(t, x, "a")
	x.Fuse(0)
	x.Cut("b")
	write(t, y, "c=3")
	stands(t, x, "b=?", "a=1 b=2", 1, 3)
	stands(t, y, "a=1 b=2 c=3", "a=1 b=2", 1, 3)
}

// TestNil: a nil rack tells zero values, and ErrArg; one that New did not make has no room.
func TestNil(t *testing.T) {
	var none *rack.Rack
	for range 2 {
		none.Fuse(0)
		none.Crash([]byte{1})
		fails(t, "Write", none.Write("a", nil), api.ErrArg)
		fails(t, "Cut", none.Cut("a"), api.ErrArg)
		fails(t, "Flush", none.Flush(), api.ErrArg)
		stands(t, none, "", "", 0, 0)
		if data, ok := none.Read("a"); len(data) != 0 || ok || none.Size() != 0 || none.Room() != 0 || none.Down() {
			t.Error("a nil rack tells something")
		}
	}
	bare := &rack.Rack{}
	fails(t, "Write", bare.Write("a", nil), api.ErrFull)
	fails(t, "Cut", bare.Cut("a"), api.ErrNone)
	fails(t, "Flush", bare.Flush(), api.OK)
	bare.Crash([]byte{1})
	stands(t, bare, "", "", 0, 0)
}

// plain is a rack as the chapter says it, with maps.
type plain struct {
	room        int
	sure, files map[string]string
	loose       []api.Change
	writes      int
	down        bool
	fuse        int
}

// do does a Write or a Cut.
func (p *plain) do(w api.Change) api.Errno {
	with := copied(p.files)
	change(with, w)
	_, there := p.files[w.Name]
	size := 0
	for name, data := range with {
		size += len(name) + len(data) + 8
	}
	switch {
	case w.Name == "" || len(w.Name) > api.MaxName:
		return api.ErrArg
	case p.down:
		return api.ErrDown
	case w.Cut && !there:
		return api.ErrNone
	case !w.Cut && (len(with) > api.MaxFiles || size > p.room):
		return api.ErrFull
	case p.fuse == 0:
		p.down = true
		return api.ErrDown
	}
	p.fuse--
	p.files = with
	p.loose = append(p.loose, w)
	p.writes++
	return api.OK
}

// crash lets those loose writes stay that are picked.
func (p *plain) crash(picks []byte) {
	for k, w := range p.loose {
		if k < len(picks) && picks[k]%2 == 1 {
			change(p.sure, w)
		}
	}
	p.files, p.loose, p.down, p.fuse = copied(p.sure), nil, false, -1
}

// flush makes all sure.
func (p *plain) flush() api.Errno {
	if p.down {
		return api.ErrDown
	}
	p.sure, p.loose = copied(p.files), nil
	return api.OK
}

// copied is plain files once more.
func copied(files map[string]string) map[string]string {
	l := map[string]string{}
	for name, data := range files {
		l[name] = data
	}
	return l
}

// TestP13_4Long: long rows of calls, with and without much room, held against a plain rack.
func TestP13_4Long(t *testing.T) {
	for seed := range int64(12) {
		rng := rand.New(rand.NewSource(seed))
		room := []int{60, 200, 500, most}[seed%4]
		r := rack.New(room)
		p := &plain{room: room, sure: map[string]string{}, files: map[string]string{}, fuse: -1}
		for step := range 3000 {
			got, want := drawn(rng, r, p)
			if got != want {
				t.Fatalf("seed %d, step %d: error %d, not %d", seed, step, got, want)
			}
			files := told(p.files)
			if p.down {
				blank := copied(p.files)
				for name := range p.files {
					blank[name] = "?"
				}
				files = told(blank)
			}
			stands(t, r, files, told(p.sure), len(p.loose), p.writes)
			if r.Down() != p.down || r.Size()+r.Room() != room {
				t.Fatalf("seed %d, step %d: Down %v, Size %d, Room %d", seed, step, r.Down(), r.Size(), r.Room())
			}
		}
	}
}

// drawn makes one call, which is drawn, on both racks.
func drawn(rng *rand.Rand, r *rack.Rack, p *plain) (got, want api.Errno) {
	// All of one length, so that none is another one's beginning.
	name := strconv.Itoa(10 + rng.Intn(60))
	data := []byte(strings.Repeat("x", rng.Intn(12)))
	switch do := rng.Intn(40); {
	case do == 0:
		picks := make([]byte, rng.Intn(30))
		rng.Read(picks)
		r.Crash(picks)
		p.crash(picks)
		return api.OK, api.OK
	case do == 1:
		n := rng.Intn(12) - 2
		r.Fuse(n)
		p.fuse = n
		return api.OK, api.OK
	case do < 5:
		return r.Flush(), p.flush()
	case do == 5:
		return r.Write("", data), p.do(api.Change{Data: data})
	case do < 15:
		return r.Cut(name), p.do(api.Change{Name: name, Cut: true})
	default:
		return r.Write(name, data), p.do(api.Change{Name: name, Data: data})
	}
}

// TestP13_4Sure: whatever stays of what is loose, a file that no loose write names stays as it is sure.
func TestP13_4Sure(t *testing.T) {
	for seed := range int64(200) {
		rng := rand.New(rand.NewSource(seed))
		r := flushed(t, most, "kept=sure", "other=1")
		for range rng.Intn(20) {
			if rng.Intn(2) == 0 {
				r.Cut("other")
			} else {
				write(t, r, "other=2")
			}
		}
		picks := make([]byte, 20)
		rng.Read(picks)
		r.Crash(picks)
		if data, ok := r.Read("kept"); string(data) != "sure" || !ok {
			t.Fatalf("seed %d: what was sure is %q %v", seed, data, ok)
		}
	}
}
