package disk

import (
	"bytes"
	"fmt"
	"maps"
	"math"
	"math/rand"
	"slices"
	"strings"
	"testing"

	"twinkeep/api"
)

// plain: a disk by the words alone, against which Disk is held.
type plain struct {
	room  int
	files map[string]plainFile
}

type plainFile struct {
	all  string
	sure int
}

func newPlain(room int) *plain { return &plain{room: room, files: map[string]plainFile{}} }

// mayBeName: 1 to 20 bytes, small letters, digits and points.
func mayBeName(name string) bool {
	for _, c := range []byte(name) {
		if strings.IndexByte(".0123456789abcdefghijklmnopqrstuvwxyz", c) < 0 {
			return false
		}
	}
	return name != "" && len(name) <= 20
}

func (p *plain) names() []string { return slices.Sorted(maps.Keys(p.files)) }

func (p *plain) used() int {
	n := 0
	for _, f := range p.files {
		n += len(f.all)
	}
	return n
}

// missing: what is told of a file ahead of all else; 0 where it is there.
func (p *plain) missing(name string) int {
	if !mayBeName(name) {
		return api.ErrArg
	}
	if _, ok := p.files[name]; !ok {
		return api.ErrNone
	}
	return api.OK
}

// step: a call on a disk; its bytes are text, and n is Cut's.
type step struct {
	call, name, text string
	n                int
	keep             []int
}

func (p *plain) do(s step) int {
	code := p.missing(s.name)
	f := p.files[s.name]
	switch s.call {
	case "append":
		switch {
		case code == api.ErrArg:
			return code
		case code == api.ErrNone && len(p.files) >= 200, p.used()+len(s.text) > p.room:
			return api.ErrFull
		}
		p.files[s.name] = plainFile{f.all + s.text, f.sure}
		return api.OK
	case "rename":
		switch {
		case code == api.ErrArg, !mayBeName(s.text), s.name == s.text:
			return api.ErrArg
		case code == api.OK:
			delete(p.files, s.name)
			p.files[s.text] = f
		}
		return code
	case "crash":
		for i, name := range p.names() {
			p.files[name] = crashed(p.files[name], s.keep, i)
		}
		return api.OK
	}
	if code != api.OK {
		return code
	}
	switch s.call {
	case "sync":
		p.files[s.name] = plainFile{f.all, len(f.all)}
	case "remove":
		delete(p.files, s.name)
	case "cut":
		if s.n < 0 || s.n > len(f.all) {
			return api.ErrRange
		}
		p.files[s.name] = plainFile{f.all[:s.n], min(s.n, f.sure)}
	}
	return api.OK
}

// crashed: f behind a crash in which it is the i-th of all.
func crashed(f plainFile, keep []int, i int) plainFile {
	n := 0
	if i < len(keep) {
		n = max(keep[i], 0)
	}
	n = min(n, len(f.all)-f.sure)
	return plainFile{f.all[:f.sure+n], f.sure + n}
}

// do: the call on d; what is handed in is not changed, and spoilt behind the call, so that d may not have kept it.
func do(t *testing.T, d *Disk, s step) int {
	t.Helper()
	switch s.call {
	case "append":
		b := []byte(s.text)
		code := d.Append(s.name, b)
		if string(b) != s.text {
			t.Errorf("Append(%.30q, %.30q) changed the bytes", s.name, s.text)
		}
		for i := range b {
			b[i] = '#'
		}
		return code
	case "sync":
		return d.Sync(s.name)
	case "rename":
		return d.Rename(s.name, s.text)
	case "remove":
		return d.Remove(s.name)
	case "cut":
		return d.Cut(s.name, s.n)
	case "crash":
		keep := slices.Clone(s.keep)
		d.Crash(keep)
		if !slices.Equal(keep, s.keep) {
			t.Errorf("Crash(%v) changed the numbers", s.keep)
		}
		return api.OK
	}
	t.Fatalf("no call %q", s.call)
	return -1
}

// checkLike: all that d tells, twice, is what p tells; and what it tells is the caller's own.
func checkLike(t *testing.T, d *Disk, p *plain, why any) {
	t.Helper()
	for range 2 {
		names := d.Names()
		if !slices.Equal(names, p.names()) || d.Used() != p.used() {
			t.Fatalf("%v: Names %.40q, Used %d; want %.40q, %d", why, names, d.Used(), p.names(), p.used())
		}
		clear(names)
		for name, f := range p.files {
			b, code := d.Read(name)
			if code != api.OK || string(b) != f.all {
				t.Fatalf("%v: Read(%q) = %.40q, %d; want %.40q", why, name, b, code, f.all)
			}
			clear(b)
			_ = append(b, "###"...)
		}
	}
}

// run: all steps on a new disk, held against the words behind each.
func run(t *testing.T, room int, steps []step) (*Disk, *plain) {
	t.Helper()
	d, p := New(room), newPlain(room)
	for i, s := range steps {
		got, want := do(t, d, s), p.do(s)
		if got != want {
			t.Fatalf("step %d of %v: %d; want %d", i, steps, got, want)
		}
	}
	checkLike(t, d, p, steps)
	return d, p
}

func appending(name, text string) step { return step{call: "append", name: name, text: text} }
func syncing(name string) step         { return step{call: "sync", name: name} }
func renaming(from, to string) step    { return step{call: "rename", name: from, text: to} }
func removing(name string) step        { return step{call: "remove", name: name} }
func cutting(name string, n int) step  { return step{call: "cut", name: name, n: n} }
func crashing(keep ...int) step        { return step{call: "crash", keep: keep} }

// checkRead: what the file has.
func checkRead(t *testing.T, d *Disk, name, want string) {
	t.Helper()
	if b, code := d.Read(name); code != api.OK || string(b) != want {
		t.Errorf("Read(%q) = %.40q, %d; want %.40q", name, b, code, want)
	}
}

func checkNames(t *testing.T, d *Disk, want ...string) {
	t.Helper()
	if names := d.Names(); !slices.Equal(names, want) {
		t.Errorf("Names() = %q; want %q", names, want)
	}
}

// checkCodes: the steps, one behind the other, tell these codes.
func checkCodes(t *testing.T, d *Disk, steps []step, codes ...int) {
	t.Helper()
	if len(steps) != len(codes) {
		t.Fatalf("%d steps, %d codes", len(steps), len(codes))
	}
	for i, s := range steps {
		if code := do(t, d, s); code != codes[i] {
			t.Errorf("step %d, %v: %d; want %d", i, s, code, codes[i])
		}
	}
}

// someNames: names that may be.
func someNames() []string {
	return []string{"a", "z", "0", "9", ".", "..", "...", "log", "s1", "s01", "views", "a.b", "1.2.3", ".a", "a.", "abcdefghijklmnopqrst", "uvwxyz.0123456789", strings.Repeat(".", 20), strings.Repeat("9", 19)}
}

// wrongNames: names that may not be, in one byte, or in their length.
func wrongNames() []string {
	l := []string{"", "A", "Z", "aB", "a b", " a", "a ", "a/b", "-", "_", "a\n", "\x00", "a\x00", "ä", "é.", "\xff", "`", "{", "/", ":", "abcdefghijklmnopqrstu", strings.Repeat(".", 21)}
	return append(l, "abcdefghijklmnopqrsT", "Abcdefghijklmnopqrst", strings.Repeat("a", 1000), strings.Repeat("a", 256), strings.Repeat("a", 257), strings.Repeat("z", 1<<20))
}

// 11.1: room is from 0 to MaxDisk; there are no files.
func TestNew(t *testing.T) {
	for _, room := range []int{-1, -2, math.MinInt, api.MaxDisk + 1, api.MaxDisk * 2, math.MaxInt, math.MaxInt32, 1 << 32, 1<<32 + 5} {
		if New(room) != nil {
			t.Errorf("New(%d) is a disk", room)
		}
	}
	for _, room := range []int{0, 1, 2, 100, api.MaxDisk - 1, api.MaxDisk} {
		d := New(room)
		if d == nil {
			t.Fatalf("New(%d) = nil", room)
		}
		checkNames(t, d)
		if d.Used() != 0 {
			t.Errorf("New(%d): Used() = %d", room, d.Used())
		}
		full := strings.Repeat("x", room)
		checkCodes(t, d, []step{appending("a", full+"y"), appending("a", full), appending("a", "y"), appending("b", ""), appending("b", "y")}, api.ErrFull, api.OK, api.ErrFull, api.OK, api.ErrFull)
		checkRead(t, d, "a", full)
		checkRead(t, d, "b", "")
		if d.Used() != room {
			t.Errorf("Used() = %d; want %d", d.Used(), room)
		}
	}
	one, other := New(10), New(10)
	one.Append("a", []byte("of one"))
	checkNames(t, other)
}

// 11.1: what names may be, of all calls that have one.
func TestNamesThatMayBe(t *testing.T) {
	for _, name := range someNames() {
		if !mayBeName(name) {
			t.Fatalf("%q may not be", name)
		}
		d := New(10)
		checkCodes(t, d, []step{syncing(name), removing(name), cutting(name, 0), renaming(name, "q"), appending(name, "ab"), syncing(name), cutting(name, 1), renaming(name, "q"), renaming("q", name), removing(name)}, api.ErrNone, api.ErrNone, api.ErrNone, api.ErrNone, api.OK, api.OK, api.OK, api.OK, api.OK, api.OK)
	}
	var each []string
	for c := range 256 {
		each = append(each, string([]byte{byte(c)}), string([]byte{'a', byte(c)}), string([]byte{byte(c), 'a'}), string([]byte{'a', byte(c), 'a'}), "abcdefghijklmnopqrs"+string([]byte{byte(c)}))
	}
	for _, name := range each {
		if code, want := New(10).Append(name, nil), mayBeName(name); (code == api.OK) != want || !want && code != api.ErrArg {
			t.Errorf("Append(%q) = %d; want %v", name, code, want)
		}
	}
	for size := range 300 {
		if code := New(0).Append(strings.Repeat("k", size), nil); (code == api.OK) != (size >= 1 && size <= 20) {
			t.Errorf("Append of a name of %d bytes = %d", size, code)
		}
	}
}

// 11.1: a name that may not be is told ahead of all else, and nothing changes.
func TestNamesThatMayNotBe(t *testing.T) {
	d, p := run(t, 10, []step{appending("a", "sure"), syncing("a"), appending("b", "more")})
	for _, name := range wrongNames() {
		if mayBeName(name) {
			t.Fatalf("%q may be", name)
		}
		for _, s := range []step{appending(name, ""), appending(name, "x"), appending(name, "this is more than it has room for"), syncing(name), removing(name), cutting(name, 0), cutting(name, -1), cutting(name, 99), renaming(name, "c"), renaming(name, "a"), renaming("a", name), renaming("none", name), renaming(name, name), renaming(name, "B")} {
			if code := do(t, d, s); code != api.ErrArg {
				t.Errorf("%.60v: %d; want ErrArg", s, code)
			}
		}
		if b, code := d.Read(name); len(b) != 0 || code != api.ErrArg {
			t.Errorf("Read(%.30q) = %q, %d; want nothing, ErrArg", name, b, code)
		}
	}
	checkLike(t, d, p, "wrong names")
}

// 11.1: a file that is not there is made; another is made longer; the bytes are kept as they were handed in.
func TestAppend(t *testing.T) {
	d := New(20)
	checkCodes(t, d, []step{appending("b", "abc"), appending("b", "de"), appending("a.9", ""), appending("c", "sixteen bytes it"), appending("c", "fifteen bytes i"), appending("b", "x"), appending("d", "x"), appending("b", ""), appending("d", "")}, 0, 0, 0, api.ErrFull, 0, api.ErrFull, api.ErrFull, 0, 0)
	checkNames(t, d, "a.9", "b", "c", "d")
	checkRead(t, d, "b", "abcde")
	checkRead(t, d, "a.9", "")
	checkRead(t, d, "c", "fifteen bytes i")
	checkRead(t, d, "d", "")
	if d.Used() != 20 {
		t.Errorf("Used() = %d; want 20", d.Used())
	}
	all := make([]byte, 256)
	for i := range all {
		all[i] = byte(i)
	}
	d = New(1000)
	d.Append("a", nil)
	d.Append("a", all[:7])
	d.Append("a", all[7:])
	if b, code := d.Read("a"); code != api.OK || !bytes.Equal(b, all) {
		t.Errorf("Read of all bytes = % X, %d", b, code)
	}
	checkRead(t, d, "a", string(all))
}

// 11.1: with ErrFull nothing changes: no file is made, none is longer. Room is there again behind Remove, Cut, Rename and Crash.
func TestRoom(t *testing.T) {
	run(t, 5, []step{appending("a", "sixsix")})
	run(t, 5, []step{appending("a", "abc"), appending("b", "abc"), appending("a", "abc"), appending("b", "ab"), appending("a", "x")})
	run(t, 5, []step{appending("a", "abc"), appending("b", "ab"), removing("a"), appending("b", "cdef"), appending("b", "cde"), appending("c", "x")})
	run(t, 5, []step{appending("a", "abcde"), cutting("a", 4), appending("b", "xy"), appending("b", "x"), appending("a", "y")})
	run(t, 5, []step{appending("a", "abc"), appending("b", "xy"), renaming("b", "a"), appending("c", "1234"), appending("c", "123"), appending("c", "4")})
	run(t, 5, []step{appending("a", "abc"), appending("b", "xy"), crashing(1), appending("c", "12345"), appending("c", "1234"), appending("b", "5")})
	run(t, 0, []step{appending("a", "x"), appending("a", ""), appending("a", "x"), syncing("a"), crashing(9), cutting("a", 0), renaming("a", "b")})
}

// 11.1: there are MaxFiles files at most; those that are there may still be made longer, and given other names.
func TestMaxFiles(t *testing.T) {
	d, p := New(300), newPlain(300)
	name := func(i int) string { return fmt.Sprintf("f%d", (i*77)%1000) }
	step := func(s step, want int) {
		t.Helper()
		if code, mine := do(t, d, s), p.do(s); code != want || mine != want {
			t.Fatalf("%v: %d, %d; want %d", s, code, mine, want)
		}
	}
	for i := range api.MaxFiles {
		step(appending(name(i), "x"), api.OK)
	}
	checkLike(t, d, p, "all files")
	step(appending("z", ""), api.ErrFull)
	step(appending("z", "x"), api.ErrFull)
	step(appending(name(3), "y"), api.OK)
	step(appending(name(3), strings.Repeat("y", 100)), api.ErrFull)
	step(appending("Z", ""), api.ErrArg)
	step(renaming(name(4), "z"), api.OK)
	step(appending(name(4), ""), api.ErrFull)
	step(renaming("z", name(5)), api.OK)
	checkLike(t, d, p, "one less")
	step(appending("y", strings.Repeat("y", 500)), api.ErrFull)
	step(appending("y", "new"), api.OK)
	step(appending("z", ""), api.ErrFull)
	step(removing("y"), api.OK)
	step(appending("z", ""), api.OK)
	step(appending("y", ""), api.ErrFull)
	step(crashing(), api.OK)
	step(appending("y", ""), api.ErrFull)
	checkLike(t, d, p, "all files again")
}

// 11.1: ErrNone of what is not there, ahead of ErrRange; of a file that is gone, too. Nothing is made.
func TestNone(t *testing.T) {
	emptied, _ := run(t, 10, []step{appending("a", "x"), appending("b", "y"), removing("a"), renaming("b", "c"), removing("c")})
	for _, d := range []*Disk{New(0), New(10), emptied} {
		for _, name := range []string{"a", "b", "c", "aa", "log"} {
			checkCodes(t, d, []step{syncing(name), removing(name), cutting(name, 0), cutting(name, -1), cutting(name, 1), renaming(name, "d"), renaming("d", name)}, api.ErrNone, api.ErrNone, api.ErrNone, api.ErrNone, api.ErrNone, api.ErrNone, api.ErrNone)
			if b, code := d.Read(name); len(b) != 0 || code != api.ErrNone {
				t.Errorf("Read(%q) = %q, %d; want nothing, ErrNone", name, b, code)
			}
		}
		checkNames(t, d)
	}
	d := New(10)
	d.Append("ab", nil)
	for _, name := range []string{"a", "aa", "abc", "b", "ab.", "0"} {
		checkCodes(t, d, []step{syncing(name), removing(name), cutting(name, 0)}, api.ErrNone, api.ErrNone, api.ErrNone)
	}
	checkNames(t, d, "ab")
}

// 11.1: the file has the other name, one that was there is gone; ErrArg to itself, whether it is there or not. What is sure stays so.
func TestRename(t *testing.T) {
	d, _ := run(t, 20, []step{appending("b", "bb"), appending("a", "a"), appending("c", "ccc")})
	checkCodes(t, d, []step{renaming("b", "b"), renaming("x", "x"), renaming("x", "a"), renaming("x", "y")}, api.ErrArg, api.ErrArg, api.ErrNone, api.ErrNone)
	checkNames(t, d, "a", "b", "c")
	checkRead(t, d, "a", "a")
	checkCodes(t, d, []step{renaming("a", "z"), renaming("c", "0")}, 0, 0)
	checkNames(t, d, "0", "b", "z")
	checkRead(t, d, "z", "a")
	checkRead(t, d, "0", "ccc")
	checkCodes(t, d, []step{renaming("z", "b"), renaming("b", "0")}, 0, 0)
	checkNames(t, d, "0")
	checkRead(t, d, "0", "a")
	if d.Used() != 1 {
		t.Errorf("Used() = %d; want 1", d.Used())
	}
	for _, c := range []struct {
		steps []step
		want  string
	}{
		{[]step{appending("a", "sure"), syncing("a"), appending("a", "more"), renaming("a", "b"), crashing()}, "sure"},
		{[]step{appending("a", "sure"), renaming("a", "b"), crashing()}, ""},
		{[]step{appending("a", "ab"), appending("b", "sure"), syncing("b"), renaming("a", "b"), crashing()}, ""},
		{[]step{appending("a", "ab"), appending("b", "sure"), syncing("a"), renaming("a", "b"), crashing()}, "ab"},
		{[]step{appending("a", "ab"), syncing("a"), renaming("a", "b"), appending("b", "cd"), syncing("b"), appending("b", "ef"), crashing(1)}, "abcde"},
	} {
		d, _ := run(t, 20, c.steps)
		checkNames(t, d, "b")
		checkRead(t, d, "b", c.want)
	}
}

// 11.1: a name that is gone and is taken again has nothing of what was there, and nothing of it is sure.
func TestRemove(t *testing.T) {
	d, _ := run(t, 20, []step{appending("a", "old"), syncing("a"), appending("b", "stays"), removing("a")})
	checkNames(t, d, "b")
	checkCodes(t, d, []step{removing("a"), appending("a", "newer")}, api.ErrNone, api.OK)
	checkRead(t, d, "a", "newer")
	checkRead(t, d, "b", "stays")
	checkCodes(t, d, []step{crashing(2)}, api.OK)
	checkRead(t, d, "a", "ne")
	checkRead(t, d, "b", "")
}

// 11.1: n is from 0 to the file's length; it ends there, and what is sure ends there, too.
func TestCut(t *testing.T) {
	d, p := run(t, 20, []step{appending("a", "sure"), syncing("a"), appending("a", "more")})
	for _, n := range []int{-1, 9, 10, 20, math.MinInt, math.MaxInt, math.MaxInt32, 1 << 32, -1 << 32} {
		if code := d.Cut("a", n); code != api.ErrRange {
			t.Errorf("Cut at %d = %d; want ErrRange", n, code)
		}
	}
	checkLike(t, d, p, "cut out of range")
	for n := range 9 {
		for _, more := range []string{"", "x", "xyzxyzxyz"} {
			for keep := range 5 {
				d, p := run(t, 20, []step{appending("a", "sure"), syncing("a"), appending("a", "more"), cutting("a", n), appending("a", more), crashing(keep)})
				sure := min(n, 4)
				want := "suremore"[:n] + more
				want = want[:min(sure+keep, len(want))]
				checkRead(t, d, "a", want)
				if d.Used() != len(want) {
					t.Errorf("cut at %d: Used() = %d; want %d", n, d.Used(), len(want))
				}
				checkLike(t, d, p, "cut")
			}
		}
	}
	d, _ = run(t, 20, []step{appending("a", "sure"), cutting("a", 4), crashing()})
	checkRead(t, d, "a", "")
	d, _ = run(t, 20, []step{appending("a", "sure"), cutting("a", 2), syncing("a"), appending("a", "x"), crashing()})
	checkRead(t, d, "a", "su")
	d, _ = run(t, 20, []step{appending("a", ""), cutting("a", 0)})
	if code := d.Cut("a", 1); code != api.ErrRange {
		t.Errorf("Cut of an empty file at 1 = %d; want ErrRange", code)
	}
}

// 11.1: what Read and Names answer is the caller's own; what was handed in is not kept.
func TestOwnMemory(t *testing.T) {
	d := New(100)
	given := []byte("given.........")[:5]
	d.Append("a", given)
	copy(given, "spoil")
	checkRead(t, d, "a", "given")
	if string(given[:cap(given)]) != "spoil........." {
		t.Errorf("Append wrote behind what was handed in: %q", given[:cap(given)])
	}
	one, _ := d.Read("a")
	other, _ := d.Read("a")
	_ = append(one[:0], "spoilt"...)
	_ = append(other, "behind"...)
	d.Append("a", []byte(" more"))
	checkRead(t, d, "a", "given more")
	d.Append("b", other)
	other[0] = '#'
	checkRead(t, d, "b", "given")
	d.Cut("a", 2)
	b, _ := d.Read("a")
	_ = append(b, "###"...)
	d.Append("a", []byte("xyz"))
	checkRead(t, d, "a", "gixyz")
	if string(b) != "gi" {
		t.Errorf("Append changed what Read answered: %q", b)
	}
	names := d.Names()
	names[0] = "z"
	_ = append(names[:1], "y")
	checkNames(t, d, "a", "b")
	d.Rename("a", "c")
	if !slices.Equal(names, []string{"z", "y"}) {
		t.Errorf("Rename changed what Names answered: %q", names)
	}
}

// 11.2: worked out by hand; the example of the document: Append, Crash: an empty file.
func TestCrash(t *testing.T) {
	d, _ := run(t, 100, []step{appending("a", "x"), crashing()})
	checkNames(t, d, "a")
	checkRead(t, d, "a", "")
	before := []step{appending("c", "sure"), syncing("c"), appending("a", "more"), appending("b", ""), syncing("d"), appending("d", "all"), syncing("d"), appending("e", "sure"), syncing("e"), appending("e", "more")}
	for _, c := range []struct {
		keep []int
		want []string // of a, b, c, d, e
	}{
		{nil, []string{"", "", "sure", "all", "sure"}},
		{[]int{}, []string{"", "", "sure", "all", "sure"}},
		{[]int{2}, []string{"mo", "", "sure", "all", "sure"}},
		{[]int{0, 0, 0, 0, 1}, []string{"", "", "sure", "all", "surem"}},
		{[]int{4, 4, 4, 4, 4}, []string{"more", "", "sure", "all", "suremore"}},
		{[]int{3, 3, 3, 3, 3}, []string{"mor", "", "sure", "all", "suremor"}},
		{[]int{5, 5, 5, 5, 5, 5, 5}, []string{"more", "", "sure", "all", "suremore"}},
		{[]int{-1, -1, -1, -1, -1}, []string{"", "", "sure", "all", "sure"}},
		{[]int{-1, 9, -3, -9, 2}, []string{"", "", "sure", "all", "suremo"}},
		{[]int{math.MinInt, math.MinInt, math.MinInt, math.MinInt, math.MinInt}, []string{"", "", "sure", "all", "sure"}},
		{[]int{math.MaxInt, math.MaxInt, math.MaxInt, math.MaxInt, math.MaxInt}, []string{"more", "", "sure", "all", "suremore"}},
		{[]int{1 << 32, 0, 0, 0, 1<<32 + 1}, []string{"more", "", "sure", "all", "suremore"}},
		{[]int{0, 0, 0, 0, 0, 3}, []string{"", "", "sure", "all", "sure"}},
	} {
		d, _ := run(t, 100, before)
		do(t, d, crashing(c.keep...))
		for i, want := range c.want {
			checkRead(t, d, string(rune('a'+i)), want)
		}
		checkNames(t, d, "a", "b", "c", "d", "e")
	}
}

// 11.2: then all that is there is sure: another crash takes nothing of it; what is appended then is not sure.
func TestCrashTwice(t *testing.T) {
	for first := -1; first < 6; first++ {
		for _, second := range [][]int{nil, {-1}, {0}, {3}, {math.MaxInt}} {
			d, p := run(t, 100, []step{appending("a", "sure"), syncing("a"), appending("a", "more"), crashing(first)})
			do(t, d, crashing(second...))
			checkLike(t, d, p, second)
			d.Append("a", []byte("!?"))
			do(t, d, crashing(1))
			was := p.files["a"].all
			checkRead(t, d, "a", was+"!")
		}
	}
}

// 11.2: the numbers go by the names as they stand at the crash, rising, byte for byte.
func TestCrashByNames(t *testing.T) {
	names := []string{"b", "a", "9", ".", "a.", "aa", "a0", "10", "2", "z", "ab"}
	rising := []string{".", "10", "2", "9", "a", "a.", "a0", "aa", "ab", "b", "z"}
	d := New(1000)
	var keep []int
	for i, name := range names {
		d.Append(name, []byte("01234567890123456789"))
		keep = append(keep, i+1)
	}
	checkNames(t, d, rising...)
	d.Crash(keep)
	for i, name := range rising {
		checkRead(t, d, name, "01234567890123456789"[:i+1])
	}
	d, _ = run(t, 100, []step{appending("b", "bbbb"), appending("c", "cccc"), renaming("c", "a"), crashing(1, 2)})
	checkRead(t, d, "a", "c")
	checkRead(t, d, "b", "bb")
}

// 11.2: of nil: ErrState, nothing, 0; but a name that may not be, and a Rename to itself, are told first, as the chapter has them.
func TestNil(t *testing.T) {
	var d *Disk
	for range 2 {
		d.Crash(nil)
		d.Crash([]int{1, 2})
		checkNames(t, d)
		if d.Used() != 0 {
			t.Errorf("Used() = %d", d.Used())
		}
		if b, code := d.Read("a"); len(b) != 0 || code != api.ErrState {
			t.Errorf("Read = %q, %d; want nothing, ErrState", b, code)
		}
		checkCodes(t, d, []step{appending("a", ""), appending("a", "x"), syncing("a"), removing("a"), cutting("a", 0), cutting("a", -1), renaming("a", "b")}, api.ErrState, api.ErrState, api.ErrState, api.ErrState, api.ErrState, api.ErrState, api.ErrState)
		checkCodes(t, d, []step{appending("", ""), syncing("A"), removing("a b"), cutting("", 0), renaming("A", "b"), renaming("a", "B"), renaming("a", "a")}, api.ErrArg, api.ErrArg, api.ErrArg, api.ErrArg, api.ErrArg, api.ErrArg, api.ErrArg)
	}
	if New(-1).Append("a", nil) != api.ErrState {
		t.Error("a disk that was not made")
	}
}

// alphabet: steps that all rows of a length are made of.
func alphabet() []step {
	return []step{
		appending("a", "12"), appending("a", "3"), appending("b", "45"), syncing("a"), syncing("b"), renaming("a", "b"), renaming("b", "a"), renaming("b", "c"),
		removing("a"), removing("b"), cutting("a", 1), cutting("b", 0), cutting("a", 3), crashing(1), crashing(0, 1), crashing(9, 9, 9),
	}
}

// 11.1, 11.2: all rows of four steps held against the words; and behind each a crash, which tells what was sure, and another, which changes nothing (T4).
func TestAllRows(t *testing.T) {
	l := alphabet()
	rows := 1
	for range 4 {
		rows *= len(l)
	}
	for row := range rows {
		var steps []step
		for n := row; len(steps) < 4; n /= len(l) {
			steps = append(steps, l[n%len(l)])
		}
		d, p := run(t, 6, steps)
		for _, s := range []step{crashing(row%3, row%4-1), crashing(row % 2)} {
			do(t, d, s)
			p.do(s)
			checkLike(t, d, p, steps)
		}
	}
}

// anyStep: a step out of many, by r.
func anyStep(r *rand.Rand) step {
	name := func() string { return [...]string{"a", "b", "c", "s1", "log", "A", ""}[r.Intn(7)] }
	switch r.Intn(12) {
	case 0:
		return syncing(name())
	case 1:
		return renaming(name(), name())
	case 2:
		return removing(name())
	case 3, 4:
		return cutting(name(), r.Intn(14)-1)
	case 5:
		return crashing(r.Intn(9)-2, r.Intn(9)-2, r.Intn(9)-2, r.Intn(9)-2)
	}
	return appending(name(), "abcdefghijklmnopqrstuvwxyz"[:r.Intn(12)])
}

// 11.1, 11.2: long rows of steps, held against the words behind each step.
func TestLongRows(t *testing.T) {
	r := rand.New(rand.NewSource(11))
	for row := range 200 {
		room := r.Intn(80)
		d, p := New(room), newPlain(room)
		for i := range 300 {
			s := anyStep(r)
			if got, want := do(t, d, s), p.do(s); got != want {
				t.Fatalf("row %d, step %d, %v: %d; want %d", row, i, s, got, want)
			}
			checkLike(t, d, p, s)
		}
	}
}

// 11.3: what was synced is there, whatever comes behind it and wherever it crashes, as long as nobody cuts it or takes it away.
func TestSyncedIsThere(t *testing.T) {
	r := rand.New(rand.NewSource(3))
	for range 300 {
		d := New(100000)
		written, synced := "", ""
		for range 40 {
			switch r.Intn(4) {
			case 0:
				d.Sync("a")
				synced = written
			case 1:
				d.Crash([]int{r.Intn(20) - 5, r.Intn(20) - 5})
				b, _ := d.Read("a")
				if !strings.HasPrefix(string(b), synced) || !strings.HasPrefix(written, string(b)) {
					t.Fatalf("%q was synced, %q written; %q is there", synced, written, b)
				}
				written, synced = string(b), string(b)
			default:
				more := "abcdefghijklmnopqrst"[:r.Intn(20)]
				d.Append("a", []byte(more))
				d.Append("0", []byte(more))
				written += more
			}
		}
	}
}

// Rule 1: a full disk of MaxFiles files, gone over often.
func TestFullDisk(t *testing.T) {
	d := New(api.MaxDisk)
	piece := make([]byte, 26)
	for i := range 40000 {
		if code := d.Append(fmt.Sprintf("s%d", i%api.MaxFiles), piece); code != api.OK {
			t.Fatalf("Append %d = %d", i, code)
		}
	}
	if d.Used() != 40000*26 || len(d.Names()) != api.MaxFiles {
		t.Errorf("Used() = %d, %d names", d.Used(), len(d.Names()))
	}
	if code := d.Append("s1", make([]byte, api.MaxDisk-40000*26+1)); code != api.ErrFull {
		t.Errorf("Append of one byte more than there is room for = %d", code)
	}
	if code := d.Append("s1", make([]byte, api.MaxDisk-40000*26)); code != api.OK || d.Used() != api.MaxDisk {
		t.Errorf("Append of all the room there is = %d; Used() = %d", code, d.Used())
	}
	if code := d.Append("s1", make([]byte, 1<<28)); code != api.ErrFull {
		t.Errorf("Append of very much = %d", code)
	}
	d.Crash(make([]int, 1000000))
	if d.Used() != 0 {
		t.Errorf("Used() behind the crash = %d", d.Used())
	}
}
