package log

import (
	"bytes"
	"encoding/binary"
	"math"
	"slices"
	"strings"
	"testing"

	"twinkeep/api"
	"twinkeep/entry"
)

func adding(view, id int) api.Entry {
	return api.Entry{Kind: api.EAdd, View: view, Id: id, Tier: id % api.Tiers, From: int64(id), To: int64(id) + 7, Sum: -uint32(id)}
}

func dropping(view, id int) api.Entry { return api.Entry{Kind: api.EDrop, View: view, Id: id} }

func viewing(view int) api.Entry { return api.Entry{Kind: api.EView, View: view} }

func ruling(view int, text string) api.Entry {
	return api.Entry{Kind: api.ERule, View: view, Text: text}
}

// some: entries that may be, of bytes few and many; no two that stand beside one another are the same.
func some() []api.Entry {
	return []api.Entry{
		viewing(1), adding(1, 1), viewing(300), dropping(300, 1), ruling(301, "seal 5"), adding(301, 2), ruling(301, ""), dropping(302, 2),
		{Kind: api.EAdd, View: api.MaxViews, Id: api.MaxViews, Tier: 3, From: api.MaxTime - 1, To: api.MaxTime, Sum: math.MaxUint32},
		ruling(1, strings.Repeat("#", 123)), ruling(1, strings.Repeat("#", 124)), ruling(1, strings.Repeat("#", 125)), ruling(1, strings.Repeat("#", 126)), // 126 to 129 bytes
		ruling(1, strings.Repeat("\n", 250)), ruling(1, strings.Repeat("\n", 251)), ruling(1, strings.Repeat("\n", 252)), ruling(1, strings.Repeat("\n", 253)), // 254 to 257
		ruling(api.MaxViews, strings.Repeat("#", 300)), viewing(api.MaxViews), dropping(0, 1), ruling(0, "#\x00\xFF"),
	}
}

// wrong: entries that may not be.
func wrong() []api.Entry {
	return []api.Entry{
		{}, viewing(0), viewing(-1), viewing(api.MaxViews + 1), dropping(1, 0), dropping(-1, 1), dropping(1, api.MaxViews+1), ruling(1, "x"), ruling(1, strings.Repeat("#", 301)),
		{Kind: api.EAdd, Id: 1}, {Kind: api.EAdd, Id: 1, Tier: 4, To: 1}, {Kind: api.EView, View: 1, Id: 1}, {Kind: 5, View: 1}, {Kind: math.MinInt, View: math.MinInt}, {Kind: 256 + api.EView, View: 1},
	}
}

// sumOf: the sum of b, by chapter 2's words.
func sumOf(b []byte) uint32 {
	n := uint64(1)
	for _, c := range b {
		n = (n*257 + uint64(c) + 1) % 4294967291
	}
	return uint32(n)
}

// bytesOf: what entry.Put makes of e.
func bytesOf(e api.Entry) []byte {
	b, code := entry.Put(e)
	if code != api.OK {
		panic("the test's own entries")
	}
	return b
}

// around: size, then the sum of it and b, then b, by chapter 10's words.
func around(size, b []byte) []byte {
	out := slices.Clone(size)
	out = binary.LittleEndian.AppendUint32(out, sumOf(append(slices.Clone(size), b...)))
	return append(out, b...)
}

// frameOf: the Frame around b, whatever it is.
func frameOf(b []byte) []byte { return around(binary.AppendUvarint(nil, uint64(len(b))), b) }

// fileOf: the Frames of l, one behind the other.
func fileOf(l []api.Entry) []byte {
	var b []byte
	for _, e := range l {
		b = append(b, frameOf(bytesOf(e))...)
	}
	return b
}

// plain: what Read is to answer, by the words: a Frame is there where what it says is just what Frame makes of it.
func plain(b []byte) ([]api.Entry, int) {
	var l []api.Entry
	at := 0
	for len(l) < 2000 {
		size, n := binary.Uvarint(b[at:])
		if n <= 0 || size > 1000 || len(b) < at+n+4+int(size) {
			return l, at
		}
		end := at + n + 4 + int(size)
		e, code := entry.Get(b[at+n+4 : end])
		if code != api.OK || !bytes.Equal(frameOf(bytesOf(e)), b[at:end]) {
			return l, at
		}
		l = append(l, e)
		at = end
	}
	return l, at
}

// checkRead: what Read answers, twice; that it changes nothing, and that its answer is the caller's own.
func checkRead(t *testing.T, b []byte, want []api.Entry, at int) {
	t.Helper()
	given := slices.Clone(b)
	for range 2 {
		l, end := Read(given)
		if !slices.Equal(l, want) || end != at {
			t.Errorf("Read(% .40X) = %d entries, %d; want %d, %d; alike are %d", b, len(l), end, len(want), at, Meet(l, want))
		}
		if !bytes.Equal(given, b) {
			t.Errorf("Read(% .40X) changed it", b)
		}
		clear(l)
		_ = append(l, viewing(7))
	}
}

// checkPlain: Read held against the words; tells how many entries there are.
func checkPlain(t *testing.T, b []byte) int {
	t.Helper()
	l, at := plain(b)
	checkRead(t, b, l, at)
	return len(l)
}

// 10.1: Frames worked out by hand. 1, then times 257 and the byte and 1 more, of 2, 3, 1: 260, 66824, 17173770, which is 01060D0A.
func TestFrameWritten(t *testing.T) {
	for _, c := range []struct {
		e    api.Entry
		want []byte
	}{
		{viewing(1), []byte{2, 0x0A, 0x0D, 6, 1, 3, 1}},
		{viewing(2), []byte{2, 0x0B, 0x0D, 6, 1, 3, 2}},
		{dropping(0, 1), []byte{3, 0x10, 0x17, 0x15, 8, 2, 0, 1}}, // 261, 67080, 17239561, then 4430567179, which is 135599888 modulo 4294967291
	} {
		if b, code := Frame(c.e); code != api.OK || !bytes.Equal(b, c.want) {
			t.Errorf("Frame(%v) = % X, %d; want % X", c.e, b, code, c.want)
		}
		checkRead(t, c.want, []api.Entry{c.e}, len(c.want))
	}
	checkRead(t, nil, nil, 0)
	checkRead(t, []byte{}, nil, 0)
}

// 10.1: every Frame is what the words say; the answers are the caller's own.
func TestFrame(t *testing.T) {
	sizes := map[int]int{}
	for _, e := range some() {
		want := frameOf(bytesOf(e))
		sizes[len(bytesOf(e))]++
		for range 2 {
			b, code := Frame(e)
			if code != api.OK || !bytes.Equal(b, want) {
				t.Fatalf("Frame(%v) = % .40X, %d; want % .40X", e, b, code, want)
			}
			clear(b)
			_ = append(b, 1, 2, 3)
		}
		checkRead(t, want, []api.Entry{e}, len(want))
	}
	for _, size := range []int{2, 126, 127, 128, 129, 254, 255, 256, 257} {
		if sizes[size] == 0 {
			t.Errorf("no entry of %d bytes", size)
		}
	}
	for _, e := range wrong() {
		if b, code := Frame(e); len(b) != 0 || code != api.ErrArg {
			t.Errorf("Frame(%v) = % .40X, %d; want nothing, ErrArg", e, b, code)
		}
	}
}

// checkAll: what All answers, twice; that it changes nothing, and that its answer is the caller's own.
func checkAll(t *testing.T, l []api.Entry, want []byte, wantCode int) {
	t.Helper()
	given := slices.Clone(l)
	for range 2 {
		b, code := All(given)
		if !bytes.Equal(b, want) || code != wantCode {
			t.Errorf("All of %d = % .40X, %d; want % .40X, %d", len(l), b, code, want, wantCode)
		}
		if !slices.Equal(given, l) {
			t.Errorf("All of %d changed them", len(l))
		}
		clear(b)
		_ = append(b, 1, 2, 3)
	}
}

// 10.1: all Frames in their order, which are read again.
func TestAll(t *testing.T) {
	checkAll(t, nil, nil, api.OK)
	checkAll(t, []api.Entry{}, nil, api.OK)
	l := some()
	for from := range l {
		for to := from; to <= len(l); to++ {
			b := fileOf(l[from:to])
			checkAll(t, l[from:to], b, api.OK)
			checkRead(t, b, l[from:to], len(b))
		}
	}
	slices.Reverse(l)
	checkAll(t, l, fileOf(l), api.OK)
	checkAll(t, []api.Entry{l[0], l[0]}, fileOf([]api.Entry{l[0], l[0]}), api.OK)
	// What stands in a file need not fold.
	checkAll(t, []api.Entry{dropping(5, 1), dropping(4, 1), viewing(3)}, fileOf([]api.Entry{dropping(5, 1), dropping(4, 1), viewing(3)}), api.OK)
}

// 10.1: an entry that may not be, wherever it stands.
func TestAllWrong(t *testing.T) {
	for _, e := range wrong() {
		checkAll(t, []api.Entry{e}, nil, api.ErrArg)
		for i := range some() {
			checkAll(t, slices.Insert(some(), i, e), nil, api.ErrArg)
		}
		checkAll(t, append(some(), e), nil, api.ErrArg)
	}
}

// 10.1: at most MaxEntries; of a list that is too long the entry that may not be is told, which the chapter names first.
func TestAllMany(t *testing.T) {
	many := slices.Repeat(some(), 2000/len(some())+1)
	for _, n := range []int{1, 1999, 2000} {
		checkAll(t, many[:n], fileOf(many[:n]), api.OK)
	}
	for _, n := range []int{2001, 2002, len(many)} {
		checkAll(t, many[:n], nil, api.ErrFull)
	}
	for _, i := range []int{0, 1, 1999, 2000, 2001} {
		l := slices.Clone(many[:2002])
		l[i] = viewing(0)
		checkAll(t, l, nil, api.ErrArg)
	}
}

// 10.2: at most MaxEntries are read; the place is behind them, whatever comes then.
func TestReadMany(t *testing.T) {
	many := slices.Repeat(some(), 2000/len(some())+3)
	whole := len(fileOf(many[:2000]))
	for _, n := range []int{1998, 1999, 2000} {
		b := fileOf(many[:n])
		checkRead(t, b, many[:n], len(b))
		checkRead(t, append(b, 2), many[:n], len(b))
	}
	for _, n := range []int{2001, 2002, len(many)} {
		checkRead(t, fileOf(many[:n]), many[:2000], whole)
	}
	checkRead(t, append(fileOf(many[:2000]), 0xFF), many[:2000], whole)
}

// 10.2, 10.3: a file that ends anywhere: what is whole is read, and the place is where that ends.
func TestReadTorn(t *testing.T) {
	l := some()
	b := fileOf(l)
	whole, end := 0, 0
	for n := range len(b) + 1 {
		if whole < len(l) && n == end+len(frameOf(bytesOf(l[whole]))) {
			whole, end = whole+1, n
		}
		checkRead(t, b[:n], l[:whole], end)
	}
	if whole != len(l) {
		t.Errorf("only %d of %d are whole", whole, len(l))
	}
}

// 10.2, 10.3, T4: what comes behind a torn end is not read; what comes behind the place is.
func TestReadGoesOn(t *testing.T) {
	l := some()[:8]
	b := fileOf(l)
	behind := []api.Entry{dropping(400, 9), viewing(401)}
	for n := range len(b) + 1 {
		kept, at := Read(b[:n])
		if at == n {
			continue
		}
		checkRead(t, append(slices.Clone(b[:n]), fileOf(behind)...), kept, at)
		mended := append(slices.Clone(b[:at]), fileOf(behind)...)
		checkRead(t, mended, append(slices.Clone(kept), behind...), len(mended))
	}
}

// 10.2, 10.3: one changed byte: nothing of its Frame, nor of those behind it, is read.
func TestReadSpoilt(t *testing.T) {
	l := some()
	for _, row := range [][]api.Entry{l[:8], {l[10], l[0]}, {l[11], l[0]}, {l[0], l[17], l[0]}} {
		b := fileOf(row)
		whole, end := 0, 0
		for i := range b {
			if i == end+len(frameOf(bytesOf(row[whole]))) {
				whole, end = whole+1, i
			}
			for c := range 256 {
				spoilt := slices.Clone(b)
				spoilt[i] = byte(c)
				if spoilt[i] != b[i] {
					checkRead(t, spoilt, row[:whole], end)
				}
			}
		}
	}
}

// 10.2: a Frame that is left out, doubled or turned about is none the less one; a byte between two is not.
func TestReadMoved(t *testing.T) {
	l := some()
	for i := range l {
		without := slices.Delete(slices.Clone(l), i, i+1)
		checkRead(t, fileOf(without), without, len(fileOf(without)))
		ahead := fileOf(l[:i])
		for _, c := range []byte{0, 1, 2, 3, 0x80, 0xFF} {
			b := slices.Concat(ahead, []byte{c}, fileOf(l[i:]))
			checkRead(t, b, l[:i], len(ahead))
		}
	}
	twice := slices.Repeat(l, 2)
	checkRead(t, fileOf(twice), twice, len(fileOf(twice)))
}

// checkNone: b is no Frame, neither alone nor between others.
func checkNone(t *testing.T, b []byte) {
	t.Helper()
	checkRead(t, b, nil, 0)
	ahead := some()[:3]
	checkRead(t, slices.Concat(fileOf(ahead), b, fileOf(ahead)), ahead, len(fileOf(ahead)))
}

// 10.2: a right sum of what is no entry, or of an entry and more.
func TestReadNoEntry(t *testing.T) {
	for _, b := range [][]byte{
		nil, {0}, {1}, {3}, {4}, {3, 0}, {3, 1, 0}, {3, 0x81, 0}, {5, 1}, {2, 1, 0}, {4, 1, 1, 'x'}, {4, 1, 6, 's'}, make([]byte, 300), bytes.Repeat([]byte{0x80}, 128), make([]byte, 1<<20),
		append([]byte{4, 1, 0xAD, 2}, bytes.Repeat([]byte("#"), 301)...),
	} {
		checkNone(t, frameOf(b))
	}
	for _, e := range some() {
		b := bytesOf(e)
		checkNone(t, frameOf(append(slices.Clone(b), 0)))
		checkNone(t, frameOf(b[:len(b)-1]))
		checkNone(t, frameOf(append(b, b...)))
	}
}

// 10.1, 10.2: a right length and entry, and another sum than that of both together, the lowest byte first.
func TestReadOtherSum(t *testing.T) {
	for _, e := range some() {
		b := bytesOf(e)
		size := binary.AppendUvarint(nil, uint64(len(b)))
		right := sumOf(append(slices.Clone(size), b...))
		checkNone(t, slices.Concat(size, binary.BigEndian.AppendUint32(nil, right), b))
		for _, n := range []uint32{0, 1, sumOf(b), sumOf(size), sumOf(append(slices.Clone(b), size...)), right + 1, right - 1, right ^ 1<<31, ^right} {
			checkNone(t, slices.Concat(size, binary.LittleEndian.AppendUint32(nil, n), b))
		}
		checkNone(t, slices.Concat(size, b))
		checkNone(t, slices.Concat(size, b, binary.LittleEndian.AppendUint32(nil, right)))
	}
}

// 10.2: a length that vary does not make, or that no bytes are left for, however great, with a right sum.
func TestReadOtherSize(t *testing.T) {
	for _, e := range some() {
		b := bytesOf(e)
		size := binary.AppendUvarint(nil, uint64(len(b)))
		last := len(size) - 1
		for _, long := range [][]byte{{size[last] | 0x80, 0}, {size[last] | 0x80, 0x80, 0}, {size[last] | 0x80}} {
			checkNone(t, around(slices.Concat(size[:last], long), b))
		}
		for _, n := range []uint64{uint64(len(b)) - 1, uint64(len(b)) + 1, 1 << 31, 1 << 32, 1<<32 + uint64(len(b)), 1<<63 - 4, 1<<63 - 1, 1 << 63, math.MaxUint64 - 4, math.MaxUint64} {
			checkNone(t, around(binary.AppendUvarint(nil, n), b))
		}
		checkNone(t, around([]byte{0x81, 0x80, 0x80, 0x80, 0x80, 0x80, 0x80, 0x80, 0x80, 2}, b))
		checkNone(t, around(nil, b))
	}
	for _, b := range [][]byte{{0}, {0x80}, {0xFF}, {1}, {2, 0, 0, 0}, {0, 0, 0, 0}, {0, 0, 0, 0, 0}, {0, 1, 0, 0, 0}, make([]byte, 1000), bytes.Repeat([]byte{0xFF}, 1000), bytes.Repeat([]byte{1}, 1000)} {
		checkRead(t, b, nil, 0)
	}
}

// 10.2: all rows of some right and wrong pieces, held against the words.
func TestReadPlain(t *testing.T) {
	pieces := [][]byte{
		frameOf([]byte{3, 1}), frameOf([]byte{2, 0, 1}), frameOf(bytesOf(ruling(1, strings.Repeat("#", 200)))), frameOf(nil), frameOf([]byte{3, 0}),
		{2}, {2, 0x0A}, {0x0A, 0x0D, 6, 1, 3, 1}, {0x0D, 6, 1, 3}, {0}, {0x80},
	}
	counts := map[int]int{}
	var lay func(b []byte, n int)
	lay = func(b []byte, n int) {
		if n == 0 {
			counts[checkPlain(t, b)]++
			return
		}
		for _, piece := range pieces {
			lay(slices.Concat(b, piece), n-1)
		}
	}
	for n := range 5 {
		lay(nil, n)
	}
	for n := range 5 {
		if counts[n] < 81 {
			t.Errorf("only %d have %d entries", counts[n], n)
		}
	}
}

// checkMeet: how many a and b begin with alike, and so which is a beginning of which.
func checkMeet(t *testing.T, a, b []api.Entry, want int) {
	t.Helper()
	wasA, wasB := slices.Clone(a), slices.Clone(b)
	if n, m := Meet(a, b), Meet(b, a); n != want || m != want {
		t.Errorf("Meet(%v, %v) = %d, turned about %d; want %d", a, b, n, m, want)
	}
	if is := Front(a, b); is != (want == len(a)) {
		t.Errorf("Front(%v, %v) = %v", a, b, is)
	}
	if is := Front(b, a); is != (want == len(b)) {
		t.Errorf("Front(%v, %v) = %v", b, a, is)
	}
	if !slices.Equal(a, wasA) || !slices.Equal(b, wasB) {
		t.Errorf("Front or Meet of %v and %v changed them", wasA, wasB)
	}
}

// 10.2: Front and Meet by hand; every part of an entry counts, whether it may be or not.
func TestMeetWritten(t *testing.T) {
	l := some()
	checkMeet(t, nil, nil, 0)
	checkMeet(t, nil, []api.Entry{}, 0)
	checkMeet(t, nil, l, 0)
	checkMeet(t, l, l, len(l))
	for i := range l {
		checkMeet(t, l[:i], l, i)
		checkMeet(t, l, append(slices.Clone(l[:i]), viewing(77)), i)
		checkMeet(t, l, slices.Concat(l[:i], []api.Entry{viewing(77)}, l[i+1:]), i)
		checkMeet(t, l[:i+1], slices.Concat(l[:i], []api.Entry{viewing(77)}, l[i+1:]), i)
	}
	e := api.Entry{Kind: 1, View: 2, Id: 3, Tier: 1, From: 5, To: 6, Sum: 7, Text: "x"}
	others := slices.Repeat([]api.Entry{e}, 8)
	others[0].Kind++
	others[1].View++
	others[2].Id++
	others[3].Tier++
	others[4].From++
	others[5].To++
	others[6].Sum++
	others[7].Text = "y"
	for _, other := range others {
		checkMeet(t, []api.Entry{e, e}, []api.Entry{e, other}, 1)
		checkMeet(t, []api.Entry{other, e}, []api.Entry{e, e}, 0)
	}
	for _, x := range wrong() {
		checkMeet(t, []api.Entry{x, x}, []api.Entry{x}, 1)
	}
}

// 10.2: Front and Meet of all rows of up to four entries of three.
func TestMeetPlain(t *testing.T) {
	few := []api.Entry{viewing(1), viewing(2), dropping(1, 1)}
	rows := [][]api.Entry{nil}
	for i := 0; i < len(rows); i++ {
		if len(rows[i]) < 4 {
			for _, e := range few {
				rows = append(rows, append(slices.Clone(rows[i]), e))
			}
		}
	}
	for _, a := range rows {
		for _, b := range rows {
			n := min(len(a), len(b))
			for !slices.Equal(a[:n], b[:n]) {
				n--
			}
			checkMeet(t, a, b, n)
		}
	}
}

// Rule 1: what is long ends soon.
func TestLong(t *testing.T) {
	const n = 300000
	l := slices.Repeat([]api.Entry{viewing(1)}, n)
	checkAll(t, l, nil, api.ErrFull)
	checkAll(t, append(slices.Clone(l), api.Entry{}), nil, api.ErrArg)
	checkRead(t, fileOf(l), l[:2000], 2000*7)
	checkMeet(t, l, append(slices.Clone(l), viewing(2)), n)
	checkRead(t, frameOf(make([]byte, 1<<24)), nil, 0)
	checkRead(t, frameOf(append([]byte{4, 1, 0x80, 0x80, 0x80, 8}, bytes.Repeat([]byte{'#'}, 1<<24)...)), nil, 0)
}
