// Package safe_test asks the safe by its face alone, promise by promise.
package safe_test

import (
	"bytes"
	"encoding/hex"
	"math/rand"
	"reflect"
	"slices"
	"strconv"
	"strings"
	"testing"

	"mailsack/api"
	"mailsack/rack"
	"mailsack/safe"
)

const (
	most = 1000000 // the greatest room that a rack may have
	redo = "=redo"
)

// fails fails the test where a call did not answer as it should.
func fails(t *testing.T, what string, got, want api.Errno) {
	t.Helper()
	if got != want {
		t.Fatalf("%s: error %d, not %d", what, got, want)
	}
}

// put is a file as it shall be.
func put(name, data string) api.Change {
	return api.Change{Name: name, Data: []byte(data)}
}

// cut is a file that shall be gone.
func cut(name string) api.Change {
	return api.Change{Name: name, Cut: true}
}

// changes is a list of changes from a text such as "a=one -b c=".
func changes(text string) []api.Change {
	var l []api.Change
	for _, word := range strings.Fields(text) {
		if name, is := strings.CutPrefix(word, "-"); is {
			l = append(l, cut(name))
			continue
		}
		name, data, _ := strings.Cut(word, "=")
		l = append(l, put(name, data))
	}
	return l
}

// numbered is so many puts of files f0, f1 .. without data.
func numbered(n int) []api.Change {
	var l []api.Change
	for i := range n {
		l = append(l, put("f"+strconv.Itoa(i), ""))
	}
	return l
}

// lay lets each file be sure on r.
func lay(t *testing.T, r *rack.Rack, l ...api.Change) {
	t.Helper()
	for _, c := range l {
		fails(t, "Write "+c.Name, r.Write(c.Name, c.Data), api.OK)
	}
	fails(t, "Flush", r.Flush(), api.OK)
}

// open opens r, which must be OK.
func open(t *testing.T, r *rack.Rack) *safe.Safe {
	t.Helper()
	s, e := safe.Open(r)
	fails(t, "Open", e, api.OK)
	return s
}

// opened is a safe on a rack of that room, on which these files are sure.
func opened(t *testing.T, room int, files string) (*rack.Rack, *safe.Safe) {
	t.Helper()
	r := rack.New(room)
	lay(t, r, changes(files)...)
	return r, open(t, r)
}

// commit does a Commit of changes, which must be OK.
func commit(t *testing.T, s *safe.Safe, text string) {
	t.Helper()
	fails(t, "Commit "+text, s.Commit(changes(text)), api.OK)
}

// read is what the safe tells, such as "a=one b=".
func read(s *safe.Safe) string {
	var l []string
	for _, name := range s.Names() {
		data, ok := s.Read(name)
		if !ok {
			data = []byte("?")
		}
		l = append(l, name+"="+string(data))
	}
	return strings.Join(l, " ")
}

// sure is what is sure on the rack, likewise; of the safe's own file it tells the name alone.
func sure(r *rack.Rack) string {
	var l []string
	for _, f := range r.Sure() {
		if f.Name == redo {
			f.Data = nil
		}
		l = append(l, f.Name+"="+string(f.Data))
	}
	return strings.Join(l, " ")
}

// stands fails the test where other files are sure, or where other numbers of writes are loose, or were done.
func stands(t *testing.T, r *rack.Rack, wantSure string, loose, writes int) {
	t.Helper()
	if got := sure(r); got != wantSure || r.Loose() != loose || r.Writes() != writes {
		t.Fatalf("sure %q, Loose %d, Writes %d, not %q, %d and %d", got, r.Loose(), r.Writes(), wantSure, loose, writes)
	}
}

// state is all that a rack tells.
func state(r *rack.Rack) []any {
	var files []string
	for _, name := range r.Names() {
		data, _ := r.Read(name)
		files = append(files, name, string(data))
	}
	return []any{files, r.Sure(), r.Loose(), r.Writes(), r.Size(), r.Room(), r.Down()}
}

// refused fails the test where Fits and Commit tell another error, or change anything.
func refused(t *testing.T, s *safe.Safe, what string, l []api.Change, want api.Errno) {
	t.Helper()
	before := state(s.Rack())
	fails(t, "Fits "+what, s.Fits(l), want)
	fails(t, "Commit "+what, s.Commit(l), want)
	if after := state(s.Rack()); !reflect.DeepEqual(after, before) {
		t.Fatalf("Commit %s, refused, changed %v to %v", what, before, after)
	}
}

// fits fails the test where l does not fit, or Fits changes anything.
func fits(t *testing.T, s *safe.Safe, what string, l []api.Change) {
	t.Helper()
	before := state(s.Rack())
	fails(t, "Fits "+what, s.Fits(l), api.OK)
	if after := state(s.Rack()); !reflect.DeepEqual(after, before) {
		t.Fatalf("Fits %s changed %v to %v", what, before, after)
	}
}

// same tells whether two lists of changes are alike in all.
func same(a, b []api.Change) bool {
	return slices.EqualFunc(a, b, func(a, b api.Change) bool {
		return a.Name == b.Name && a.Cut == b.Cut && bytes.Equal(a.Data, b.Data)
	})
}

// TestP14_1Bytes: of each change a number, its name, and, if it is no Cut, its data.
func TestP14_1Bytes(t *testing.T) {
	for _, c := range []struct {
		l    []api.Change
		want string
	}{
		{nil, ""},
		{[]api.Change{}, ""},
		{changes("a=xyz"), "0001610378797a"},
		{changes("a="), "00016100"},
		{changes("-a"), "010161"},
		{[]api.Change{put("", "")}, "000000"},
		{[]api.Change{cut("")}, "0100"},
		{[]api.Change{{Name: "a", Cut: true, Data: []byte("x")}}, "010161"},
		{changes("b=1 -b a=2 b=3"), "00016201" + "31" + "010162" + "00016101" + "32" + "00016201" + "33"},
		{[]api.Change{put(redo, "\x00\xff")}, "00053d7265646f" + "0200ff"},
	} {
		if got := hex.EncodeToString(safe.Bytes(c.l)); got != c.want {
			t.Errorf("Bytes %v: %s, not %s", c.l, got, c.want)
		}
	}
	long := strings.Repeat("n", 200)
	if got, want := safe.Bytes([]api.Change{put(long, long+long)}), "\x00\xc8\x01"+long+"\x90\x03"+long+long; string(got) != want {
		t.Errorf("long: %q", got)
	}
}

// TestP14_1Parse: what is written is read back, up to the end; the data of a Cut is none.
func TestP14_1Parse(t *testing.T) {
	for _, l := range [][]api.Change{
		nil, changes("a=xyz"), changes("a="), changes("-a"), {put("", "x"), cut("")}, changes("b=1 -b a=2 b=3"), {put(redo, "\x00\xff"), cut(redo)},
		{put(strings.Repeat("n", api.MaxName), strings.Repeat("d", api.MaxBytes)), cut(strings.Repeat("ä", api.MaxName/2))},
		numbered(500),
	} {
		back, e := safe.Parse(safe.Bytes(l))
		if e != api.OK || !same(back, l) {
			t.Errorf("Parse of %d changes: error %d, %d changes", len(l), e, len(back))
		}
	}
	back, e := safe.Parse(safe.Bytes([]api.Change{{Name: "a", Cut: true, Data: []byte("x")}}))
	if e != api.OK || !same(back, changes("-a")) {
		t.Errorf("a Cut's data: %v, error %d", back, e)
	}
}

// TestP14_1Short: each piece of the bytes that does not end with a change is too short, and nothing else is told.
func TestP14_1Short(t *testing.T) {
	l := changes("ab=xyz -c d=")
	raw := safe.Bytes(l)
	whole := map[int]int{0: 0}
	for i := range l {
		whole[len(safe.Bytes(l[:i+1]))] = i + 1
	}
	for n := range len(raw) + 1 {
		back, e := safe.Parse(raw[:n:n])
		many, ends := whole[n]
		if ends && (e != api.OK || !same(back, l[:many])) || !ends && (e != api.ErrShort || len(back) != 0) {
			t.Errorf("%d bytes: %v, error %d", n, back, e)
		}
		// What lies behind the length is not read.
		if again, f := safe.Parse(raw[:n]); f != e || !same(again, back) {
			t.Errorf("%d bytes, more behind: %v, error %d", n, again, f)
		}
	}
}

// TestP14_1Form: numbers that are neither, and names and data that are too long; the first fault from the first byte on.
func TestP14_1Form(t *testing.T) {
	name := func(n int) string { return hex.EncodeToString(append([]byte{byte(n)}, strings.Repeat("n", n)...)) }
	for s, want := range map[string]api.Errno{
		"02": api.ErrForm, "7f": api.ErrForm, "8001": api.ErrForm, "020161": api.ErrForm, "02016100": api.ErrForm, "ffffffffff7f": api.ErrForm,
		"8000": api.ErrForm, "8100": api.ErrForm, "80": api.ErrShort, "808080808080": api.ErrForm, "00": api.ErrShort, "01": api.ErrShort,
		"00016100" + "02": api.ErrForm, "00016100" + "01": api.ErrShort, "010161" + "00": api.ErrShort, "010161" + "01016200": api.ErrShort,
		"00" + name(24) + "00": api.OK, "01" + name(24): api.OK, "00" + name(25) + "00": api.ErrForm, "01" + name(25): api.ErrForm,
		"0018": api.ErrShort, "0019": api.ErrForm, "01ffffffffff3f": api.ErrForm, "008000": api.ErrForm,
		"000161c09a0c": api.ErrShort, "000161c19a0c": api.ErrForm, "0001618000": api.ErrForm, "000161": api.ErrShort, "00016180": api.ErrShort,
		"000161" + "0278": api.ErrShort, "01" + name(25) + "02": api.ErrForm, "0001" + "02": api.ErrShort, "0002" + "61": api.ErrShort,
	} {
		raw, e := hex.DecodeString(s)
		if e != nil {
			t.Fatal(s)
		}
		if l, e := safe.Parse(raw); e != want || e != api.OK && len(l) != 0 {
			t.Errorf("Parse %s: %v, error %d, not %d", s, l, e, want)
		}
	}
	data := func(n int) []byte { return safe.Bytes([]api.Change{{Name: "a", Data: make([]byte, n)}}) }
	if l, e := safe.Parse(data(api.MaxBytes)); e != api.OK || len(l) != 1 || len(l[0].Data) != api.MaxBytes {
		t.Errorf("as many bytes as may be: error %d", e)
	}
	if l, e := safe.Parse(data(api.MaxBytes + 1)); e != api.ErrForm || len(l) != 0 {
		t.Errorf("a byte more: error %d", e)
	}
}

// TestP14_1Drawn: lists that are drawn are read as they were; bytes that are drawn never do harm, and what they tell is written likewise.
func TestP14_1Drawn(t *testing.T) {
	rng := rand.New(rand.NewSource(1))
	for range 2000 {
		var l []api.Change
		for range rng.Intn(6) {
			name, data := make([]byte, rng.Intn(api.MaxName+1)), make([]byte, rng.Intn(300))
			rng.Read(name)
			rng.Read(data)
			l = append(l, api.Change{Name: string(name), Data: data})
			if rng.Intn(3) == 0 {
				l[len(l)-1] = cut(string(name))
			}
		}
		raw := safe.Bytes(l)
		if back, e := safe.Parse(raw); e != api.OK || !same(back, l) {
			t.Fatalf("%v: %v, error %d", l, back, e)
		}
		if len(raw) == 0 {
			continue
		}
		raw[rng.Intn(len(raw))] ^= byte(1 << rng.Intn(8))
		back, e := safe.Parse(raw)
		if e == api.OK && !bytes.Equal(safe.Bytes(back), raw) || e != api.OK && len(back) != 0 || e != api.OK && e != api.ErrForm && e != api.ErrShort {
			t.Fatalf("%x: %v, error %d", raw, back, e)
		}
	}
}

// TestP14_2OpenPlain: a rack without a redo is left as it is, what is loose, too.
func TestP14_2OpenPlain(t *testing.T) {
	if s, e := safe.Open(nil); s != nil || e != api.ErrArg {
		t.Errorf("no rack: %v, error %d", s, e)
	}
	r := rack.New(100)
	s := open(t, r)
	stands(t, r, "", 0, 0)
	if s.Rack() != r || read(s) != "" {
		t.Error("an empty rack")
	}
	lay(t, r, put("a", "1"))
	fails(t, "Write", r.Write("b", nil), api.OK)
	r.Fuse(0)
	s = open(t, r)
	stands(t, r, "a=1", 1, 2)
	if r.Down() || read(s) != "a=1 b=" {
		t.Errorf("read %q", read(s))
	}
}

// TestP14_2OpenRedo: what a redo tells is done, in order, and sure; then the redo is gone.
func TestP14_2OpenRedo(t *testing.T) {
	for _, c := range []struct {
		files, redo, want string
		writes            int
	}{
		{"a=1", "", "a=1", 3},
		{"a=1", "a=2", "a=2", 4},
		{"a=1", "b=2", "a=1 b=2", 4},
		{"a=1", "-a", "", 4},
		{"a=1", "-b", "a=1", 3},
		{"a=1 b=2", "-a b=3 c=4 -d", "b=3 c=4", 6},
		{"a=1", "a=2 a=3", "a=3", 5},
		{"a=1", "-a a=2", "a=2", 5},
		{"a=1", "a=2 -a", "", 5},
		{"a=1", "-a -a", "", 4},
	} {
		for _, flush := range []bool{false, true} {
			r := rack.New(most)
			lay(t, r, changes(c.files)...)
			fails(t, "Write", r.Write(redo, safe.Bytes(changes(c.redo))), api.OK)
			if flush {
				fails(t, "Flush", r.Flush(), api.OK)
			}
			s := open(t, r)
			stands(t, r, c.want, 0, c.writes+len(changes(c.files))-1)
			if read(s) != c.want {
				t.Errorf("%v: read %q", c, read(s))
			}
			open(t, r)
			stands(t, r, c.want, 0, c.writes+len(changes(c.files))-1)
		}
	}
	r := rack.New(most)
	lay(t, r, api.Change{Name: redo, Data: safe.Bytes([]api.Change{cut(""), put(redo, "x"), put("a", "1")})})
	open(t, r)
	stands(t, r, "a=1", 0, 4)
}

// TestP14_2OpenErrors: the first error, ahead of which what was done is done.
func TestP14_2OpenErrors(t *testing.T) {
	never := func(r *rack.Rack, what string, want api.Errno) {
		t.Helper()
		if s, e := safe.Open(r); s != nil || e != want {
			t.Fatalf("%s: %v, error %d, not %d", what, s, e, want)
		}
	}
	for raw, want := range map[string]api.Errno{"\x02": api.ErrForm, "\x00\x01a": api.ErrShort, "\x00\x01a\x00\x00": api.ErrShort, "\x00\x01a\x00\x01\x19": api.ErrForm} {
		r := rack.New(most)
		lay(t, r, put(redo, raw), put("b", "1"))
		before := state(r)
		never(r, "Open", want)
		if !reflect.DeepEqual(state(r), before) {
			t.Errorf("Open, refused, changed %v to %v", before, state(r))
		}
		r.Fuse(0)
		r.Write("c", nil)
		never(r, "without power", api.ErrDown)
	}
	r := rack.New(most)
	lay(t, r, put(redo, string(safe.Bytes([]api.Change{put("a", "1"), put("", "2"), put("b", "3")}))))
	never(r, "no name", api.ErrArg)
	stands(t, r, "=redo=", 1, 2)
	r = rack.New(50)
	lay(t, r, put(redo, string(safe.Bytes(changes("a=1 b=2")))), put("c", "0123456"))
	never(r, "no room", api.ErrFull)
	stands(t, r, "=redo= c=0123456", 1, 3)
	fails(t, "Cut", r.Cut("c"), api.OK)
	open(t, r)
	stands(t, r, "a=1 b=2", 0, 7)
}

// TestP14_2OpenFuse: wherever the power goes while a rack is opened, what was sure by then is sure, and opened anew all is done.
func TestP14_2OpenFuse(t *testing.T) {
	log := put(redo, string(safe.Bytes(changes("a=9 -b d=4 -z"))))
	for fuse, want := range []struct {
		sure  string
		loose int
	}{{"=redo= a=1 b=2", 0}, {"=redo= a=1 b=2", 1}, {"=redo= a=1 b=2", 2}, {"=redo= a=9 d=4", 0}} {
		for picks := range 8 {
			r := rack.New(most)
			lay(t, r, put("a", "1"), put("b", "2"), log)
			r.Fuse(fuse)
			if s, e := safe.Open(r); s != nil || e != api.ErrDown {
				t.Fatalf("Fuse(%d): error %d", fuse, e)
			}
			stands(t, r, want.sure, want.loose, 3+fuse)
			r.Crash([]byte{byte(picks), byte(picks >> 1), byte(picks >> 2)})
			open(t, r)
			if sure(r) != "a=9 d=4" {
				t.Fatalf("Fuse(%d), picks %d: %q", fuse, picks, sure(r))
			}
		}
	}
}

// TestP14_2FitsArg: names that may not be, the safe's own, one twice; data of too many bytes; all of it ahead of room.
func TestP14_2FitsArg(t *testing.T) {
	long := strings.Repeat("n", api.MaxName)
	many := make([]byte, api.MaxBytes+1)
	for _, room := range []int{most, 0} {
		_, s := opened(t, room, "")
		for what, l := range map[string][]api.Change{
			"own":             {put(redo, "x")},
			"own, cut":        {cut(redo)},
			"no name":         {put("", "x")},
			"no name, cut":    {cut("")},
			"long name":       {put(long+"n", "x")},
			"long name, cut":  {cut(long + "n")},
			"wide name":       {put(strings.Repeat("ä", api.MaxName/2)+"n", "x")},
			"twice":           changes("a=1 a=1"),
			"twice, cut":      changes("-a -a"),
			"put and cut":     changes("a=1 -a"),
			"twice, between":  changes("b=1 a=1 c=1 b=2"),
			"many bytes":      {{Name: "a", Data: many}},
			"the last one":    append(numbered(60), cut(redo)),
			"behind much":     {{Name: "a", Data: many[1:]}, {Name: "b", Data: many[1:]}, cut("a")},
			"behind nothing":  changes("-z a=1 -z"),
			"many, and twice": {{Name: "a", Data: many}, cut("a")},
		} {
			refused(t, s, what, l, api.ErrArg)
		}
	}
	_, s := opened(t, most, "")
	for what, l := range map[string][]api.Change{
		"long name": {put(long, "x"), cut(strings.Repeat("ä", api.MaxName/2))},
		"alike":     {put("a", ""), put("A", ""), put("aa", ""), cut("a\x00"), cut("=redo "), cut("=REDO"), cut("redo")},
		"nothing":   nil,
	} {
		fits(t, s, what, l)
		fails(t, what, s.Commit(l), api.OK)
	}
}

// TestP14_2FitsBytes: the bytes of all changes together are a file, which has its bounds.
func TestP14_2FitsBytes(t *testing.T) {
	_, s := opened(t, most, "")
	// Beside its data a change is a number, a name of one byte, and what says how many each of the two has.
	const beside = 1 + 2 + 3
	for _, c := range []struct {
		sizes []int
		want  api.Errno
	}{
		{[]int{api.MaxBytes - beside}, api.OK}, {[]int{api.MaxBytes - beside + 1}, api.ErrFull}, {[]int{api.MaxBytes}, api.ErrFull},
		{[]int{100000, 100000 - 2*beside}, api.OK}, {[]int{100000, 100000 - 2*beside + 1}, api.ErrFull},
	} {
		var l []api.Change
		for i, n := range c.sizes {
			l = append(l, api.Change{Name: string(rune('a' + i)), Data: make([]byte, n)})
		}
		if c.want != api.OK {
			refused(t, s, "bytes", l, c.want)
			continue
		}
		fits(t, s, "bytes", l)
		fails(t, "Commit", s.Commit(l), api.OK)
	}
	var l []api.Change
	for i := range api.MaxBytes / 8 {
		l = append(l, cut(strconv.Itoa(100000+i)))
	}
	fits(t, s, "many cuts", l)
	refused(t, s, "one cut more", append(l, cut("a")), api.ErrFull)
}

// TestP14_2FitsNames: with the redo, and all that is there, and all that comes, at most MaxFiles names; what goes makes no place yet.
func TestP14_2FitsNames(t *testing.T) {
	r, s := opened(t, most, "")
	refused(t, s, "40 names", numbered(40), api.ErrFull)
	fits(t, s, "39 names", numbered(39))
	fails(t, "Commit", s.Commit(numbered(39)), api.OK)
	fits(t, s, "names that are there", append(numbered(39), cut("g"), cut("h")))
	fits(t, s, "nothing", nil)
	for what, l := range map[string]string{"a name more": "g=", "another one gone": "-f0 g=", "all gone": "g= -f0 -f1 -f2"} {
		refused(t, s, what, changes(l), api.ErrFull)
	}
	commit(t, s, "-f0")
	commit(t, s, "g=")
	lay(t, r, put("h", ""))
	for what, l := range map[string]string{"a new one": "i=", "one that is there": "g=", "a cut": "-g", "nothing": ""} {
		refused(t, s, what+" where 40 names are", changes(l), api.ErrFull)
	}
	fails(t, "Cut", r.Cut("h"), api.OK)
	lay(t, r, put(redo, "x"))
	fits(t, s, "a redo that is there", changes("g= -f1"))
	refused(t, s, "a name more beside a redo", changes("h="), api.ErrFull)
}

// TestP14_2FitsRoom: the redo, and of each file the greater cost, as it is and as it shall be.
func TestP14_2FitsRoom(t *testing.T) {
	// The costs of a redo beside its bytes, and of a file with a name of one byte beside its data.
	const log, file = 5 + 8, 1 + 8
	for _, c := range []struct {
		files, l string
		want     int
	}{
		{"", "", log},
		{"", "a=", log + 4 + file},
		{"", "a=12", log + 6 + file + 2},
		{"", "-a", log + 3},
		{"a=12", "", log + file + 2},
		{"a=12", "-a", log + 3 + file + 2},
		{"a=12", "a=1", log + 5 + file + 2},
		{"a=12", "a=34", log + 6 + file + 2},
		{"a=12", "a=345", log + 7 + file + 3},
		{"a=12", "-a b=34", log + 3 + 6 + 2*(file+2)},
		{"a=12", "b=34 -a", log + 3 + 6 + 2*(file+2)},
		{"a=12 b=3 long=4567", "b=89 long=1 -z", log + 6 + 8 + 3 + 2*(file+2) + 4 + 8 + 4},
		{"a=12 b=3 c=", "a= b= -c", log + 4 + 4 + 3 + 3*file + 3},
	} {
		for room := c.want - 3; room <= c.want+3; room++ {
			if room < 0 {
				continue
			}
			r, s := opened(t, room, c.files)
			if room < c.want {
				refused(t, s, c.l, changes(c.l), api.ErrFull)
				continue
			}
			fits(t, s, c.l, changes(c.l))
			before := r.Writes()
			commit(t, s, c.l)
			if len(changes(c.l)) == 0 && r.Writes() != before {
				t.Errorf("no changes: %d writes", r.Writes()-before)
			}
		}
	}
}

// TestP14_2FitsRedo: a redo that somebody else wrote counts, too, if it costs more than the one that is to come.
func TestP14_2FitsRedo(t *testing.T) {
	for room, want := range map[int]api.Errno{52: api.ErrFull, 53: api.OK} {
		r, s := opened(t, room, "")
		lay(t, r, put(redo, strings.Repeat("x", 30)))
		if e := s.Fits(changes("a=1")); e != want {
			t.Errorf("room %d: error %d", room, e)
		}
	}
}

// TestP14_2FitsOver: where a crash left more than there is room for, nothing fits, until it is gone.
func TestP14_2FitsOver(t *testing.T) {
	r, _ := opened(t, 30, "a=123456")
	fails(t, "Cut", r.Cut("a"), api.OK)
	fails(t, "Write", r.Write("b", []byte("12345678901234567890")), api.OK)
	r.Crash([]byte{0, 1})
	s := open(t, r)
	for _, l := range []string{"", "-a", "a=", "b="} {
		refused(t, s, l, changes(l), api.ErrFull)
	}
	fails(t, "Cut", r.Cut("b"), api.OK)
	refused(t, s, "a=", changes("a="), api.ErrFull)
	fails(t, "Cut", r.Cut("a"), api.OK)
	commit(t, s, "a=")
}

// TestP14_2CommitDown: without power ErrDown comes ahead of all else, and so it does where there are no changes.
func TestP14_2CommitDown(t *testing.T) {
	r, s := opened(t, 30, "a=123456")
	r.Fuse(0)
	fails(t, "Write", r.Write("a", nil), api.ErrDown)
	before := state(r)
	for what, l := range map[string][]api.Change{"nothing": nil, "own": {put(redo, "x")}, "twice": changes("a= a="), "a put": changes("a="), "too much": numbered(60)} {
		fails(t, what, s.Commit(l), api.ErrDown)
		s.Fits(l)
	}
	if !reflect.DeepEqual(state(r), before) {
		t.Error("a Commit without power changed something")
	}
}

// TestP14_2CommitOrder: the redo, sure; the changes, in order, sure; the redo gone, sure.
func TestP14_2CommitOrder(t *testing.T) {
	l := changes("c=3 a=9 -z -b")
	for fuse, want := range []struct {
		sure  string
		names string
		loose int
		error api.Errno
	}{
		{"a=1 b=2", "a b", 0, api.ErrDown},
		{"=redo= a=1 b=2", "a b", 0, api.ErrDown},
		{"=redo= a=1 b=2", "a b c", 1, api.ErrDown},
		{"=redo= a=1 b=2", "a b c", 2, api.ErrDown},
		{"=redo= a=9 c=3", "a c", 0, api.ErrDown},
		{"a=9 c=3", "a c", 0, api.OK},
	} {
		r, s := opened(t, most, "a=1 b=2")
		r.Fuse(fuse)
		fails(t, "Commit", s.Commit(l), want.error)
		stands(t, r, want.sure, want.loose, 2+fuse)
		if got := strings.Join(s.Names(), " "); got != want.names || r.Down() != (want.error == api.ErrDown) {
			t.Errorf("Fuse(%d): Names %q, Down %v", fuse, got, r.Down())
		}
		for _, f := range r.Sure() {
			if f.Name == redo && !bytes.Equal(f.Data, safe.Bytes(l)) {
				t.Errorf("Fuse(%d): the redo is %x", fuse, f.Data)
			}
		}
	}
}

// TestP14_2CommitPlain: puts, cuts, cuts of what is not there, one behind the other; a fuse that is not met hinders nothing.
func TestP14_2CommitPlain(t *testing.T) {
	r, s := opened(t, most, "")
	for _, c := range []struct {
		l, want string
		writes  int
	}{
		{"a=1 b=2", "a=1 b=2", 4}, {"", "a=1 b=2", 0}, {"-z", "a=1 b=2", 2}, {"a=1", "a=1 b=2", 3}, {"b= c=3 -a", "b= c=3", 5},
		{"-c -b -a", "", 4}, {"-a", "", 2}, {"c=4", "c=4", 3},
	} {
		before := r.Writes()
		r.Fuse(c.writes)
		commit(t, s, c.l)
		stands(t, r, c.want, 0, before+c.writes)
		if read(s) != c.want || r.Down() {
			t.Errorf("%v: read %q", c, read(s))
		}
	}
	r.Fuse(-1)
	all := make([]byte, 256)
	for i := range all {
		all[i] = byte(i)
	}
	fails(t, "Commit", s.Commit([]api.Change{{Name: "\x00\xff", Data: all}, {Name: "c", Cut: true, Data: all}}), api.OK)
	if data, ok := s.Read("\x00\xff"); !bytes.Equal(data, all) || !ok || len(s.Names()) != 1 {
		t.Errorf("Read %v %v of %q", data, ok, s.Names())
	}
}

// TestP14_2CommitFull: where Fits says that there is room, there is, up to the last byte, behind a crash, too.
func TestP14_2CommitFull(t *testing.T) {
	rng := rand.New(rand.NewSource(2))
	done := 0
	for range 20000 {
		r, s := opened(t, 60+rng.Intn(60), "")
		fails(t, "nothing", s.Commit(nil), api.OK)
		for range 3 {
			l := drawn(rng)
			want := s.Fits(l)
			if rng.Intn(2) == 0 {
				r.Fuse(rng.Intn(8))
			}
			got := s.Commit(l)
			if want != api.OK && got != want || want == api.OK && (got == api.OK) == r.Down() || got != api.OK && got != want && got != api.ErrDown {
				t.Fatalf("Commit: error %d, Fits: %d, Down %v", got, want, r.Down())
			}
			picks := make([]byte, 8)
			rng.Read(picks)
			r.Crash(picks)
			s = open(t, r)
			if r.Room() < 0 {
				t.Fatalf("Room %d", r.Room())
			}
			if got == api.OK {
				done++
			}
		}
	}
	if done < 1000 {
		t.Errorf("%d were done", done)
	}
}

// drawn is some changes, each of another file.
func drawn(rng *rand.Rand) []api.Change {
	var l []api.Change
	for _, i := range rng.Perm(5)[:rng.Intn(5)] {
		name := string(rune('a' + i))
		if rng.Intn(3) == 0 {
			l = append(l, cut(name))
		} else {
			l = append(l, put(name, strings.Repeat(strconv.Itoa(rng.Intn(10)), rng.Intn(12))))
		}
	}
	return l
}

// TestP14_3: the rack's files, but the safe's own.
func TestP14_3(t *testing.T) {
	r, s := opened(t, most, "b=2 a=1 A=3")
	fails(t, "Write", r.Write(redo, []byte("x")), api.OK)
	fails(t, "Write", r.Write("=", []byte("y")), api.OK)
	fails(t, "Write", r.Write("=redos", nil), api.OK)
	for range 2 {
		if got := read(s); got != "==y =redos= A=3 a=1 b=2" {
			t.Errorf("read %q", got)
		}
	}
	for _, name := range []string{redo, "", "c", strings.Repeat("n", 100)} {
		if data, ok := s.Read(name); len(data) != 0 || ok {
			t.Errorf("Read %q: %q %v", name, data, ok)
		}
	}
	if data, ok := r.Read(redo); string(data) != "x" || !ok || len(r.Names()) != 6 || s.Rack() != r {
		t.Error("the rack is not as it was")
	}
	r.Fuse(0)
	r.Write("c", nil)
	if data, ok := s.Read("a"); len(data) != 0 || ok {
		t.Errorf("Read without power: %q %v", data, ok)
	}
	r.Crash(nil)
	if read(s) != "A=3 a=1 b=2" {
		t.Errorf("read %q", read(s))
	}
}

// change does l on plain files.
func change(files map[string]string, l []api.Change) map[string]string {
	with := map[string]string{}
	for name, data := range files {
		with[name] = data
	}
	for _, c := range l {
		if c.Cut {
			delete(with, c.Name)
		} else {
			with[c.Name] = string(c.Data)
		}
	}
	return with
}

// told is what read and sure tell of plain files.
func told(files map[string]string) string {
	var l []string
	for name, data := range files {
		l = append(l, name+"="+data)
	}
	slices.Sort(l)
	return strings.Join(l, " ")
}

// TestP14_4Each: wherever the power goes, whatever stays, and wherever it goes while the rack is opened: all, once the redo was sure, or nothing.
func TestP14_4Each(t *testing.T) {
	l := changes("a=9 -b d=4 -z")
	picked := func(bits int) []byte { return []byte{byte(bits), byte(bits >> 1), byte(bits >> 2)} }
	for fuse := range 6 {
		for picks := range 8 {
			for again := range 5 {
				for stay := range 8 {
					r, s := opened(t, most, "a=1 b=2 c=3")
					r.Fuse(fuse)
					e := s.Commit(l)
					r.Crash(picked(picks))
					r.Fuse(again)
					safe.Open(r)
					r.Crash(picked(stay))
					s = open(t, r)
					want := "a=1 b=2 c=3"
					// At fuse 1 the power goes at the first change: the redo stands by then.
					if fuse >= 1 {
						want = "a=9 c=3 d=4"
					}
					if sure(r) != want || read(s) != want || (e == api.OK) != (fuse >= 5) || r.Loose() != 0 {
						t.Fatalf("fuse %d, picks %d, again %d, stay %d: %q, error %d", fuse, picks, again, stay, sure(r), e)
					}
				}
			}
		}
	}
}

// TestP14_4Long: long rows of commits and crashes, held against plain files: what was told OK is there, the one in flight whole or not at all.
func TestP14_4Long(t *testing.T) {
	for seed := range int64(20) {
		rng := rand.New(rand.NewSource(seed))
		r, s := opened(t, []int{100, 300, most}[seed%3], "")
		files := map[string]string{}
		for step := range 400 {
			if rng.Intn(3) == 0 {
				r.Fuse(rng.Intn(10))
			}
			l := drawn(rng)
			with := change(files, l)
			e := s.Commit(l)
			if e == api.OK {
				files = with
			}
			if e != api.ErrDown && read(s) != told(files) {
				t.Fatalf("seed %d, step %d: error %d, read %q, not %q", seed, step, e, read(s), told(files))
			}
			if e != api.ErrDown && rng.Intn(4) != 0 {
				continue
			}
			s = anew(t, rng, r)
			if e == api.ErrDown && read(s) == told(with) {
				files = with
			}
			if read(s) != told(files) || sure(r) != told(files) {
				t.Fatalf("seed %d, step %d: behind a crash %q, not %q", seed, step, read(s), told(files))
			}
		}
	}
}

// anew lets the power go, now and while the rack is opened, and opens it in the end.
func anew(t *testing.T, rng *rand.Rand, r *rack.Rack) *safe.Safe {
	t.Helper()
	picks := make([]byte, 10)
	for range rng.Intn(3) + 1 {
		rng.Read(picks)
		r.Crash(picks)
		r.Fuse(rng.Intn(6))
		safe.Open(r)
	}
	r.Crash(picks)
	return open(t, r)
}

// TestMemory: what is handed in is neither changed nor kept, and what is told is the caller's own.
func TestMemory(t *testing.T) {
	spare := []byte("one, and behind it")
	l := []api.Change{{Name: "b", Data: spare[:3]}, {Name: "a", Data: spare[:3]}, cut("z")}
	r, s := opened(t, most, "")
	raw := safe.Bytes(l)
	kept := slices.Clone(raw)
	back, _ := safe.Parse(raw)
	fits(t, s, "memory", l)
	fails(t, "Commit", s.Commit(l), api.OK)
	if string(spare) != "one, and behind it" || l[0].Name != "b" || l[1].Name != "a" || !l[2].Cut {
		t.Errorf("changed what was handed in: %v", l)
	}
	copy(spare, "!!!")
	clear(raw)
	if !same(back, changes("b=one a=one -z")) || read(s) != "a=one b=one" {
		t.Errorf("kept what was handed in: %v, %q", back, read(s))
	}
	_ = append(back[0].Data, "spilt"...)
	back[0].Data[0] = '!'
	if string(back[1].Data) != "one" {
		t.Error("two lists share memory")
	}
	for range 2 {
		data, _ := s.Read("a")
		names := s.Names()
		names[0], data[0] = "!", '!'
		_, _ = append(names, "spilt"), append(data, "spilt"...)
	}
	if read(s) != "a=one b=one" || !bytes.Equal(safe.Bytes(changes("b=one a=one -z")), kept) {
		t.Errorf("an answer changed the safe: %q", read(s))
	}
	// A redo that is done is not kept: what the rack tells later is its own.
	lay(t, r, api.Change{Name: redo, Data: safe.Bytes(changes("a=two"))})
	files := r.Sure()
	open(t, r)
	if string(files[0].Data) != string(safe.Bytes(changes("a=two"))) || read(s) != "a=two b=one" {
		t.Errorf("read %q", read(s))
	}
}

// TestApart: two safes on one rack know the same, and on two racks nothing of one another.
func TestApart(t *testing.T) {
	r, x := opened(t, most, "a=1")
	y := open(t, r)
	_, z := opened(t, most, "a=1")
	commit(t, x, "b=2")
	commit(t, y, "-a c=3")
	if read(x) != "b=2 c=3" || read(y) != "b=2 c=3" || read(z) != "a=1" {
		t.Errorf("%q, %q, %q", read(x), read(y), read(z))
	}
}

// TestNil: a nil safe tells zero values, and ErrArg; so does one that Open did not make.
func TestNil(t *testing.T) {
	for _, s := range []*safe.Safe{nil, {}} {
		for _, l := range [][]api.Change{nil, changes("a=1"), {put("", "")}} {
			fails(t, "Commit", s.Commit(l), api.ErrArg)
			fails(t, "Fits", s.Fits(l), api.ErrArg)
		}
		for _, name := range []string{"a", redo, ""} {
			if data, ok := s.Read(name); len(data) != 0 || ok {
				t.Errorf("Read %q: %q %v", name, data, ok)
			}
		}
		if len(s.Names()) != 0 || s.Rack() != nil {
			t.Error("a nil safe tells something")
		}
	}
}
