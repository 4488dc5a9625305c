package entry

import (
	"bytes"
	"encoding/binary"
	"math"
	"slices"
	"strings"
	"testing"

	"twinkeep/api"
	"twinkeep/policy"
)

// infoOf: what a manifest tells of a segment, of parts that go with its Id, none of which rises with it.
func infoOf(id int) api.Info {
	from := int64(1<<39 - id)
	return api.Info{Id: id, Tier: id % api.Tiers, From: from, To: from + 7, Sum: -uint32(id)}
}

// adding: the entry that adds that segment.
func adding(view, id int) api.Entry {
	i := infoOf(id)
	return api.Entry{Kind: api.EAdd, View: view, Id: i.Id, Tier: i.Tier, From: i.From, To: i.To, Sum: i.Sum}
}

func dropping(view, id int) api.Entry { return api.Entry{Kind: api.EDrop, View: view, Id: id} }

func viewing(view int) api.Entry { return api.Entry{Kind: api.EView, View: view} }

func ruling(view int, text string) api.Entry {
	return api.Entry{Kind: api.ERule, View: view, Text: text}
}

// some: entries that may be, at the edges of each part.
func some() []api.Entry {
	l := []api.Entry{
		{Kind: api.EAdd, Id: 1, To: 1}, {Kind: api.EAdd, View: 3, Id: 300, Tier: 2, From: 5, To: 200, Sum: 7},
		{Kind: api.EAdd, View: api.MaxViews, Id: api.MaxViews, Tier: 3, From: api.MaxTime - 1, To: api.MaxTime, Sum: math.MaxUint32},
		{Kind: api.EAdd, View: 1, Id: 2, Tier: 1, To: api.MaxTime}, {Kind: api.EAdd, View: 127, Id: 127, From: 127, To: 128, Sum: 127}, {Kind: api.EAdd, View: 128, Id: 128, From: 128, To: 129, Sum: 128},
		{Kind: api.EAdd, View: 1, Id: 1, From: 16383, To: 16384, Sum: 1 << 31}, adding(0, 1), adding(1, 2), adding(2, 3), adding(3, 4),
	}
	for _, view := range []int{0, 1, 2, 127, 128, 16383, 16384, api.MaxViews - 1, api.MaxViews} {
		for _, id := range []int{1, 2, 127, 128, api.MaxViews - 1, api.MaxViews} {
			l = append(l, dropping(view, id))
		}
		if view > 0 {
			l = append(l, viewing(view))
		}
		for _, text := range []string{
			"", "\n", " ", "#", "seal 5", "keep raw 5\nkeep 1h ever\nspan 200 # all\n", "#\x00\xFF\xC3", "seal 0000000000064",
			strings.Repeat("#", 127), strings.Repeat(" ", 128), strings.Repeat("\n", 299), strings.Repeat("#", 300), "seal 9" + strings.Repeat("\n", 294),
		} {
			l = append(l, ruling(view, text))
		}
	}
	return l
}

// wrong: entries that may not be, in one part each.
func wrong() []api.Entry {
	l := []api.Entry{{}, {View: 1}, {Id: 1, To: 1}, {View: 1, Id: 1}, {Text: "seal 5"}}
	for _, kind := range []int{math.MinInt, -1, 0, 5, 6, 255, 256, 257, 1<<32 + 1, math.MaxInt} {
		for _, e := range []api.Entry{adding(1, 2), dropping(1, 2), viewing(1), ruling(1, ""), ruling(0, "seal 5")} {
			e.Kind = kind
			l = append(l, e)
		}
	}
	for _, n := range []int{math.MinInt, -api.MaxViews, -1, api.MaxViews + 1, 1<<32 + 1, math.MaxInt} {
		l = append(l, adding(n, 2), dropping(n, 2), viewing(n), ruling(n, "seal 5"), dropping(1, n))
		l = append(l, api.Entry{Kind: api.EAdd, Id: n, To: 5}, api.Entry{Kind: api.EAdd, Id: 1, Tier: n, To: 5})
	}
	l = append(l, viewing(0), dropping(1, 0), dropping(0, 0), api.Entry{Kind: api.EAdd, To: 5}, api.Entry{Kind: api.EAdd, Id: 1, Tier: 4, To: 5}, api.Entry{Kind: api.EAdd, Id: 1})
	for _, span := range [][2]int64{
		{-1, 5}, {math.MinInt64, 5}, {5, 5}, {5, 4}, {1, 0}, {0, 0}, {0, -1}, {0, api.MaxTime + 1}, {0, math.MaxInt64}, {0, math.MinInt64},
		{api.MaxTime, api.MaxTime}, {api.MaxTime, api.MaxTime + 1}, {math.MaxInt64, math.MinInt64}, {-2, -1},
	} {
		l = append(l, api.Entry{Kind: api.EAdd, Id: 1, From: span[0], To: span[1]})
	}
	for _, text := range []string{
		"x", "seal", "seal 5\nseal 5", "seal 0", "seal 65", "span 201", "keep raw 601", "keep 1d 1", "keep raw 00000000000000", "seal 5\r\n", "SEAL 5", "\x00",
		strings.Repeat("#", 301), strings.Repeat(" ", 301), "seal 9" + strings.Repeat("\n", 295), strings.Repeat("\n", 1<<20),
	} {
		l = append(l, ruling(1, text))
	}
	return append(l, foreign()...)
}

// foreign: entries that may be, but for one part that their Kind has not.
func foreign() []api.Entry {
	var l []api.Entry
	for _, e := range []api.Entry{adding(1, 2), dropping(1, 2), viewing(1), ruling(1, ""), ruling(1, "seal 5")} {
		others := slices.Repeat([]api.Entry{e}, 6)
		others[0].Id++
		others[1].Tier++
		others[2].From++
		others[3].To++
		others[4].Sum++
		others[5].Text = "seal 5"
		for part, other := range others {
			if !hasPart(e.Kind, part) {
				l = append(l, other)
			}
		}
	}
	for _, from := range []int64{-1, 1} {
		l = append(l, api.Entry{Kind: api.EView, View: 1, From: from, To: from + 1}, api.Entry{Kind: api.EDrop, View: 1, Id: 1, From: from})
	}
	return append(l, api.Entry{Kind: api.EAdd, Id: 1, To: 1, Text: " "}, api.Entry{Kind: api.ERule, Tier: -1}, api.Entry{Kind: api.ERule, Id: -1}, api.Entry{Kind: api.EView, View: 1, Text: "x"})
}

// hasPart: whether that kind has the part (from 0 on: Id, Tier, From, To, Sum, Text).
func hasPart(kind, part int) bool {
	return kind == api.EAdd && part < 5 || kind == api.EDrop && part == 0 || kind == api.ERule && part == 5
}

// isBare: whether e has nothing in the parts that its Kind has not.
func isBare(e api.Entry) bool {
	for part, isNone := range []bool{e.Id == 0, e.Tier == 0, e.From == 0, e.To == 0, e.Sum == 0, e.Text == ""} {
		if !hasPart(e.Kind, part) && !isNone {
			return false
		}
	}
	return true
}

// mayBe: whether e may be an entry, by chapter 9's words.
func mayBe(e api.Entry) bool {
	if e.View < 0 || e.View > 1<<30 || !isBare(e) {
		return false
	}
	isId := e.Id >= 1 && e.Id <= 1<<30
	switch e.Kind {
	case 1:
		return isId && e.Tier >= 0 && e.Tier <= 3 && e.From >= 0 && e.To > e.From && e.To <= 1<<40
	case 2:
		return isId
	case 3:
		return e.View > 0
	case 4:
		_, code, _ := policy.Parse(e.Text)
		return len(e.Text) <= 300 && code == api.OK
	}
	return false
}

// numbered: these numbers behind the kind's byte, then the rest.
func numbered(kind byte, rest string, numbers ...uint64) []byte {
	b := []byte{kind}
	for _, n := range numbers {
		b = binary.AppendUvarint(b, n)
	}
	return append(b, rest...)
}

// bytesOf: what Put is to make of e, by chapter 9's words.
func bytesOf(e api.Entry) []byte {
	view, id := uint64(e.View), uint64(e.Id)
	switch e.Kind {
	case api.EAdd:
		return numbered(1, "", view, id, uint64(e.Tier), uint64(e.From), uint64(e.To), uint64(e.Sum))
	case api.EDrop:
		return numbered(2, "", view, id)
	case api.EView:
		return numbered(3, "", view)
	}
	return numbered(4, e.Text, view, uint64(len(e.Text)))
}

// checkBytes: nobody has anything of b.
func checkBytes(t *testing.T, b []byte) {
	t.Helper()
	if e, code := Get(b); e != (api.Entry{}) || code != api.ErrBytes {
		t.Errorf("Get(% .40X) = %v, %d; want nothing, ErrBytes", b, e, code)
	}
}

// checkOnly: b is what Put makes of what Get has of it, or Get has nothing; tells which.
func checkOnly(t *testing.T, b []byte) bool {
	t.Helper()
	e, code := Get(b)
	if code != api.OK {
		checkBytes(t, b)
		return false
	}
	if !mayBe(e) || !bytes.Equal(bytesOf(e), b) {
		t.Errorf("Get(% .40X) = %v, of which Put makes other bytes", b, e)
	}
	return true
}

// 9.1: what may be, and what may not in one part.
func TestMay(t *testing.T) {
	for _, e := range some() {
		if !May(e) || !mayBe(e) {
			t.Errorf("May(%.40v) = %v", e, May(e))
		}
	}
	for _, e := range wrong() {
		if May(e) || mayBe(e) {
			t.Errorf("May(%.40v) = %v", e, May(e))
		}
	}
}

// 9.1: all mixtures of parts about the edges, held against the words.
func TestMayPlain(t *testing.T) {
	small := []int{-1, 0, 1, 3, 4, api.MaxViews, api.MaxViews + 1}
	times := []int64{math.MinInt64, -1, 0, 1, 2, api.MaxTime - 1, api.MaxTime, api.MaxTime + 1, math.MaxInt64}
	well := map[int]int{}
	check := func(e api.Entry) {
		want := mayBe(e)
		if May(e) != want {
			t.Errorf("May(%.40v) = %v", e, !want)
		}
		if want {
			well[e.Kind]++
		}
	}
	for kind := -1; kind <= 6; kind++ {
		for _, view := range small {
			for _, id := range small {
				for _, k := range small {
					for _, from := range times {
						for _, to := range times {
							check(api.Entry{Kind: kind, View: view, Id: id, Tier: k, From: from, To: to, Sum: uint32(view)})
							check(api.Entry{Kind: kind, View: view, Id: id, Tier: k, From: from, To: to})
						}
					}
				}
				for _, text := range []string{"", "seal 5", "seal 0", "x"} {
					check(api.Entry{Kind: kind, View: view, Id: id, Text: text})
				}
			}
		}
	}
	for kind, least := range map[int]int{api.EAdd: 200, api.EDrop: 10, api.EView: 4, api.ERule: 8} {
		if well[kind] < least {
			t.Errorf("only %d of kind %d may be", well[kind], kind)
		}
	}
}

// 9.1: how long a rule may be is counted in bytes, whatever they are.
func TestMayLongRule(t *testing.T) {
	for n := range 700 {
		for _, piece := range []string{"#", "#\xC3\xA9", "#\xFF\x00", "\n", " ", "seal 7\n"} {
			text := strings.Repeat(piece, n)
			e := ruling(1, text)
			want := len(text) <= 300 && (piece[0] != 's' || n <= 1)
			if May(e) != want {
				t.Errorf("May of %d bytes of %q = %v", len(text), piece, !want)
			}
		}
	}
}

// 9.2: the bytes of entries, worked out by hand.
func TestPutWritten(t *testing.T) {
	for _, c := range []struct {
		e    api.Entry
		want []byte
	}{
		{api.Entry{Kind: api.EAdd, View: 3, Id: 300, Tier: 2, From: 5, To: 200, Sum: 7}, []byte{1, 3, 0xAC, 2, 2, 5, 0xC8, 1, 7}},
		{api.Entry{Kind: api.EAdd, Id: 1, To: 1}, []byte{1, 0, 1, 0, 0, 1, 0}},
		{
			api.Entry{Kind: api.EAdd, View: api.MaxViews, Id: api.MaxViews, Tier: 3, From: api.MaxTime - 1, To: api.MaxTime, Sum: math.MaxUint32},
			[]byte{
				1, 0x80, 0x80, 0x80, 0x80, 4, 0x80, 0x80, 0x80, 0x80, 4, 3,
				0xFF, 0xFF, 0xFF, 0xFF, 0xFF, 0x1F, 0x80, 0x80, 0x80, 0x80, 0x80, 0x20, 0xFF, 0xFF, 0xFF, 0xFF, 0x0F,
			},
		},
		{api.Entry{Kind: api.EDrop, Id: 4}, []byte{2, 0, 4}},
		{api.Entry{Kind: api.EDrop, View: 200, Id: 127}, []byte{2, 0xC8, 1, 127}},
		{api.Entry{Kind: api.EView, View: 9}, []byte{3, 9}},
		{api.Entry{Kind: api.EView, View: api.MaxViews}, []byte{3, 0x80, 0x80, 0x80, 0x80, 4}},
		{api.Entry{Kind: api.ERule}, []byte{4, 0, 0}},
		{api.Entry{Kind: api.ERule, View: 1, Text: "seal 5"}, []byte("\x04\x01\x06seal 5")},
		{api.Entry{Kind: api.ERule, View: 2, Text: "#\xFF\x00"}, []byte{4, 2, 3, '#', 0xFF, 0}},
		{api.Entry{Kind: api.ERule, Text: strings.Repeat("#", 300)}, slices.Concat([]byte{4, 0, 0xAC, 2}, bytes.Repeat([]byte("#"), 300))},
	} {
		if b, code := Put(c.e); code != api.OK || !bytes.Equal(b, c.want) {
			t.Errorf("Put(%.40v) = % .40X, %d; want % .40X", c.e, b, code, c.want)
		}
	}
}

// 9.2: what is put is what the words say, and is got; the answers are the caller's own.
func TestPutGet(t *testing.T) {
	for _, e := range some() {
		b, code := Put(e)
		if code != api.OK || !bytes.Equal(b, bytesOf(e)) {
			t.Fatalf("Put(%.40v) = % .40X, %d; want % .40X", e, b, code, bytesOf(e))
		}
		got, code := Get(b)
		if code != api.OK || got != e || !bytes.Equal(b, bytesOf(e)) {
			t.Fatalf("Get(% .40X) = %v, %d; want %v", bytesOf(e), got, code, e)
		}
		for i := range b {
			b[i] ^= 0x55
		}
		_ = append(b, 1, 2, 3)
		if got != e {
			t.Errorf("Get of %v shares what it was given", e)
		}
		if again, _ := Put(e); !bytes.Equal(again, bytesOf(e)) {
			t.Errorf("Put(%.40v) = % .40X behind a write into an older answer", e, again)
		}
	}
}

// 9.2: ErrArg, and no bytes, of what may not be.
func TestPutWrong(t *testing.T) {
	for _, e := range wrong() {
		if b, code := Put(e); len(b) != 0 || code != api.ErrArg {
			t.Errorf("Put(%.40v) = % .40X, %d; want nothing, ErrArg", e, b, code)
		}
	}
}

// 9.2: the bytes that would be made of what may not be are not got.
func TestGetWrong(t *testing.T) {
	for _, e := range wrong() {
		// Kinds that are none, and parts that the kind has not, have no bytes.
		if e.Kind >= 1 && e.Kind <= 4 && isBare(e) {
			checkBytes(t, bytesOf(e))
		}
	}
	for kind := range 256 {
		for _, rest := range []string{"", "\x00", "\x01", "\x01\x01", "\x01\x01\x00\x00\x01\x00", "\x01\x06seal 5"} {
			is := checkOnly(t, numbered(byte(kind), rest))
			want := kind == 1 && len(rest) == 6 || kind == 2 && rest == "\x01\x01" || kind == 3 && rest == "\x01" || kind == 4 && len(rest) == 8
			if is != want {
				t.Errorf("Get of kind %d and % X: %v", kind, rest, is)
			}
		}
	}
}

// 9.2: no beginning of an entry's bytes is one, and nothing may stand behind it.
func TestGetCutOrLonger(t *testing.T) {
	for _, b := range [][]byte{nil, {}, {0}, {1}, {2}, {3}, {4}, {0xFF}, make([]byte, 9000), bytes.Repeat([]byte{0x80}, 9000), bytes.Repeat([]byte{4}, 1<<20)} {
		checkBytes(t, b)
	}
	for _, e := range some() {
		b := bytesOf(e)
		for n := range b {
			checkBytes(t, b[:n])
		}
		for _, c := range []byte{0, 1, ' ', '#', '\n', 0x80, 0xFF} {
			checkBytes(t, append(slices.Clone(b), c))
		}
		checkBytes(t, slices.Concat(b, b))
	}
}

// 9.2: numbers that are too great for their part, though what is left of them in fewer bits may be.
func TestGetTooGreat(t *testing.T) {
	well := []uint64{3, 4, 2, 5, 9, 7}
	if !checkOnly(t, numbered(1, "", well...)) || !checkOnly(t, numbered(2, "", 3, 4)) || !checkOnly(t, numbered(4, "#", 3, 1)) {
		t.Fatal("the test's own bytes")
	}
	for _, high := range []uint64{1 << 31, 1 << 32, 1 << 40, 1 << 41, 1 << 62, 1 << 63, math.MaxUint64 - 9} {
		for part := range well {
			numbers := slices.Clone(well)
			numbers[part] += high
			// A Sum may be as great as 32 bits hold, a To as MaxTime less what it was.
			is := checkOnly(t, numbered(1, "", numbers...))
			if want := (part == 5 || part == 4) && high == 1<<31 || part == 4 && high == 1<<32; is != want {
				t.Errorf("part %d and %d: %v", part, high, is)
			}
		}
		checkBytes(t, numbered(2, "", 3+high, 4))
		checkBytes(t, numbered(2, "", 3, 4+high))
		checkBytes(t, numbered(3, "", 3+high))
		checkBytes(t, numbered(4, "#", 3+high, 1))
		checkBytes(t, numbered(4, "#", 3, 1+high))
		checkBytes(t, numbered(4, "", 3, high))
	}
	// Beyond 64 bits: a tenth byte of 2.
	checkBytes(t, []byte{3, 0x81, 0x80, 0x80, 0x80, 0x80, 0x80, 0x80, 0x80, 0x80, 2})
}

// 9.2: a number with a byte more than it needs is none, wherever it stands.
func TestGetTooLong(t *testing.T) {
	for _, b := range [][]byte{{1, 3, 4, 2, 5, 9, 7}, {1, 0, 1, 0, 0, 1, 0}, {2, 3, 4}, {2, 0, 1}, {3, 9}, {4, 0, 0}, {4, 1, 0}} {
		if !checkOnly(t, b) {
			t.Errorf("Get(% .40X): nothing", b)
		}
		for i := 1; i < len(b); i++ {
			checkBytes(t, slices.Concat(b[:i], []byte{b[i] | 0x80, 0}, b[i+1:]))
			checkBytes(t, slices.Concat(b[:i], []byte{b[i] | 0x80, 0x80, 0}, b[i+1:]))
			checkBytes(t, slices.Concat(b[:i], []byte{b[i] | 0x80}, b[i+1:]))
		}
	}
}

// 9.2: a rule's length is how many bytes it has, and these are a policy.
func TestGetRule(t *testing.T) {
	for n := range uint64(400) {
		for _, size := range []int{0, 1, 5, 6, 7, 127, 128, 299, 300, 301, 350} {
			is := checkOnly(t, numbered(4, strings.Repeat("#", size), 1, n))
			if want := int(n) == size && size <= 300; is != want {
				t.Errorf("Get of a rule of %d bytes that says %d: %v", size, n, is)
			}
		}
	}
	for _, text := range []string{"x", "seal 0", "seal 5\nseal 5", "keep raw 601"} {
		checkBytes(t, numbered(4, text, 1, uint64(len(text))))
	}
}

// 9.2: all bytes of a small alphabet: those that are got are made.
func TestGetSmall(t *testing.T) {
	alphabet := []byte{0, 1, 2, 3, 4, 5, '#', 0x80}
	kinds := map[byte]int{}
	var lay func(b []byte, n int)
	lay = func(b []byte, n int) {
		if n == 0 {
			if checkOnly(t, b) {
				kinds[b[0]]++
			}
			return
		}
		for _, c := range alphabet {
			lay(append(b, c), n-1)
		}
	}
	for n := range 8 {
		lay(nil, n)
	}
	for kind := byte(1); kind <= 4; kind++ {
		if kinds[kind] < 5 {
			t.Errorf("only %d were of kind %d", kinds[kind], kind)
		}
	}
	if kinds[0] > 0 || kinds[5] > 0 {
		t.Error("kinds that are none")
	}
}

// 9.2: each byte changed to each other one: another entry, or none.
func TestGetChanged(t *testing.T) {
	for _, e := range []api.Entry{adding(3, 300), dropping(1, 9), viewing(300), ruling(2, "seal 5\nspan 9")} {
		b := bytesOf(e)
		for i := range b {
			for c := range 256 {
				x := slices.Clone(b)
				x[i] = byte(c)
				if checkOnly(t, x) {
					if got, _ := Get(x); (got == e) != (x[i] == b[i]) {
						t.Errorf("Get(% .40X) = %v", x, got)
					}
				}
			}
		}
	}
}

// plain: what Fold is to answer, by chapter 9's words, each entry held against all that stand ahead.
func plain(l []api.Entry) ([]api.Info, api.Policy, int, int) {
	rule, view := policy.Default(), 0
	var there []api.Info
	for i, e := range l {
		place := slices.IndexFunc(there, func(x api.Info) bool { return x.Id == e.Id })
		wasAdded := slices.ContainsFunc(l[:i], func(x api.Entry) bool { return x.Kind == api.EAdd && x.Id == e.Id })
		isBelow := slices.ContainsFunc(l[:i], func(x api.Entry) bool { return x.View > e.View })
		switch {
		case !mayBe(e):
			return nil, api.Policy{}, 0, api.ErrArg
		case e.Kind == api.EAdd && wasAdded:
			return nil, api.Policy{}, 0, api.ErrTwice
		case e.Kind == api.EDrop && place < 0:
			return nil, api.Policy{}, 0, api.ErrNone
		case isBelow:
			return nil, api.Policy{}, 0, api.ErrView
		}
		switch e.Kind {
		case api.EAdd:
			there = append(there, api.Info{Id: e.Id, Tier: e.Tier, From: e.From, To: e.To, Sum: e.Sum})
		case api.EDrop:
			there = slices.Delete(there, place, place+1)
		case api.EView:
			view = e.View
		case api.ERule:
			rule, _, _ = policy.Parse(e.Text)
		}
	}
	slices.SortFunc(there, func(a, b api.Info) int { return a.Id - b.Id })
	return there, rule, view, api.OK
}

// checkFold: what Fold answers, that it changes nothing of what it was given, and that its answer is the caller's own.
func checkFold(t *testing.T, l []api.Entry, infos []api.Info, rule api.Policy, view, wantCode int) {
	t.Helper()
	given := slices.Clone(l)
	for range 2 {
		i, p, v, code := Fold(given)
		if !slices.Equal(i, infos) || p != rule || v != view || code != wantCode {
			t.Errorf("Fold(%.40v) = %v, %v, %d, %d; want %v, %v, %d, %d", l, i, p, v, code, infos, rule, view, wantCode)
		}
		if !slices.Equal(given, l) {
			t.Errorf("Fold(%.40v) changed it", l)
		}
		clear(i)
		_ = append(i, api.Info{Id: 7})
	}
}

// checkFault: l has this fault, and there is nothing behind it.
func checkFault(t *testing.T, l []api.Entry, code int) {
	t.Helper()
	checkFold(t, l, nil, api.Policy{}, 0, code)
}

// checkPlain: Fold held against the words.
func checkPlain(t *testing.T, l []api.Entry) int {
	t.Helper()
	infos, rule, view, code := plain(l)
	checkFold(t, l, infos, rule, view, code)
	return code
}

// 9.3: folded by hand.
func TestFoldWritten(t *testing.T) {
	d := policy.Default()
	checkFold(t, nil, nil, d, 0, api.OK)
	checkFold(t, []api.Entry{}, nil, d, 0, api.OK)
	checkFold(t, []api.Entry{adding(0, 3)}, []api.Info{infoOf(3)}, d, 0, api.OK)
	checkFold(t, []api.Entry{adding(5, 3)}, []api.Info{infoOf(3)}, d, 0, api.OK) // its View is not an EView's
	checkFold(t, []api.Entry{adding(0, 9), adding(0, 3), adding(0, 5)}, []api.Info{infoOf(3), infoOf(5), infoOf(9)}, d, 0, api.OK)
	checkFold(t, []api.Entry{adding(0, 9), adding(1, 3), dropping(1, 9)}, []api.Info{infoOf(3)}, d, 0, api.OK)
	checkFold(t, []api.Entry{adding(0, 9), dropping(0, 9)}, nil, d, 0, api.OK)
	checkFold(t, []api.Entry{viewing(1), viewing(1), viewing(7), adding(7, 1), ruling(9, "")}, []api.Info{infoOf(1)}, d, 7, api.OK)
	checkFold(t, []api.Entry{viewing(api.MaxViews)}, nil, d, api.MaxViews, api.OK)
	seven, nine, span := d, d, d
	seven.Count, nine.Count, span.Span = 7, 9, 9
	checkFold(t, []api.Entry{ruling(0, "seal 7")}, nil, seven, 0, api.OK)
	checkFold(t, []api.Entry{ruling(0, "seal 7"), ruling(0, "seal 9")}, nil, nine, 0, api.OK)
	checkFold(t, []api.Entry{ruling(0, "seal 7"), ruling(2, "span 9"), viewing(3)}, nil, span, 3, api.OK) // what the last one does not say is Default's
	checkFold(t, []api.Entry{ruling(0, "seal 7"), ruling(0, "")}, nil, d, 0, api.OK)
	last := api.Entry{Kind: api.EAdd, View: api.MaxViews, Id: api.MaxViews, Tier: 3, From: 1, To: api.MaxTime, Sum: math.MaxUint32}
	checkFold(t, []api.Entry{last}, []api.Info{{Id: api.MaxViews, Tier: 3, From: 1, To: api.MaxTime, Sum: math.MaxUint32}}, d, 0, api.OK)
}

// 9.3: each fault, at the end and with more behind it; of several of one entry the one that the chapter names first.
func TestFoldFaults(t *testing.T) {
	l := []api.Entry{adding(0, 5), viewing(2), adding(2, 3), ruling(2, "seal 7"), dropping(3, 5), adding(3, 4)}
	if checkPlain(t, l) != api.OK {
		t.Fatal("the test's own entries")
	}
	for _, c := range []struct {
		e    api.Entry
		code int
	}{
		{adding(3, 3), api.ErrTwice}, {adding(3, 4), api.ErrTwice}, {adding(3, 5), api.ErrTwice}, {adding(9, 5), api.ErrTwice},
		{api.Entry{Kind: api.EAdd, View: 3, Id: 3, To: 1}, api.ErrTwice}, {adding(2, 3), api.ErrTwice}, {adding(0, 5), api.ErrTwice},
		{dropping(3, 5), api.ErrNone}, {dropping(3, 6), api.ErrNone}, {dropping(4, 5), api.ErrNone}, {dropping(2, 5), api.ErrNone}, {dropping(0, 1), api.ErrNone},
		{adding(2, 6), api.ErrView}, {adding(0, 6), api.ErrView}, {dropping(2, 3), api.ErrView}, {dropping(0, 4), api.ErrView}, {viewing(2), api.ErrView}, {viewing(1), api.ErrView},
		{ruling(2, ""), api.ErrView}, {ruling(0, "seal 7"), api.ErrView},
		{ruling(3, "x"), api.ErrArg}, {ruling(2, "x"), api.ErrArg}, {viewing(0), api.ErrArg}, {dropping(3, 0), api.ErrArg}, {dropping(3, -1), api.ErrArg},
		{api.Entry{Kind: api.EAdd, View: 3, Id: 3}, api.ErrArg}, {api.Entry{Kind: api.EAdd, View: 1, Id: 3, To: 5, Text: "x"}, api.ErrArg},
		{api.Entry{Kind: api.EDrop, View: 1, Id: 6, Tier: 1}, api.ErrArg}, {api.Entry{Kind: api.EView, View: 1, Id: 3}, api.ErrArg},
	} {
		checkFault(t, append(slices.Clone(l), c.e), c.code)
		for _, behind := range []api.Entry{{}, adding(3, 3), dropping(3, 5), viewing(1), adding(9, 9)} {
			checkFault(t, append(slices.Clone(l), c.e, behind), c.code)
		}
	}
	for _, e := range wrong() {
		checkFault(t, []api.Entry{e}, api.ErrArg)
		checkFault(t, append(slices.Clone(l), e, adding(3, 3)), api.ErrArg)
	}
	for _, e := range []api.Entry{adding(3, 6), dropping(3, 3), viewing(3), ruling(3, ""), viewing(4), ruling(api.MaxViews, "seal 1")} {
		if code := checkPlain(t, append(slices.Clone(l), e)); code != api.OK {
			t.Errorf("behind all %v tells %d", e, code)
		}
	}
}

// 9.3: a View below any one ahead, whatever their Kinds.
func TestFoldViews(t *testing.T) {
	made := []func(view, id int) api.Entry{adding, func(view, _ int) api.Entry { return viewing(view) }, func(view, _ int) api.Entry { return ruling(view, "seal 7") }}
	for _, first := range made {
		for _, second := range made {
			for _, third := range made {
				checkFault(t, []api.Entry{first(5, 1), second(4, 2)}, api.ErrView)
				checkFault(t, []api.Entry{first(4, 1), second(5, 2), third(4, 3)}, api.ErrView)
				checkFault(t, []api.Entry{first(4, 1), second(3, 2), third(4, 3)}, api.ErrView)
				if checkPlain(t, []api.Entry{first(4, 1), second(4, 2), third(5, 3)}) != api.OK {
					t.Error("Views that do not fall")
				}
			}
		}
	}
}

// 9.3, 9.4: every row of up to five entries of a few, held against the words.
func TestFoldPlain(t *testing.T) {
	few := []api.Entry{adding(1, 1), adding(2, 1), adding(1, 2), dropping(1, 1), dropping(2, 1), dropping(2, 2), viewing(1), viewing(2), ruling(1, "seal 7"), ruling(2, "span 9"), {}}
	codes := map[int]int{}
	var lay func(l []api.Entry, n int)
	lay = func(l []api.Entry, n int) {
		if n == 0 {
			codes[checkPlain(t, l)]++
			return
		}
		for _, e := range few {
			lay(append(l, e), n-1)
		}
	}
	for n := range 6 {
		lay(nil, n)
	}
	for _, code := range []int{api.OK, api.ErrArg, api.ErrTwice, api.ErrNone, api.ErrView} {
		if codes[code] < 100 {
			t.Errorf("only %d tell %d", codes[code], code)
		}
	}
}

// 9.4: long manifests, all of whose entries went through their bytes: what is there is what they say, behind each of them.
func TestManifest(t *testing.T) {
	seed := uint64(9)
	next := func(n int) int {
		seed = seed*6364136223846793005 + 1442695040888963407
		return int(seed>>33) % n
	}
	for range 20 {
		var l []api.Entry
		view := 1
		for range 60 {
			view += next(5) / 4
			e := []api.Entry{adding(view, 1+next(40)), dropping(view, 1+next(40)), viewing(view), ruling(view, "seal "+string(rune('1'+next(9))))}[next(4)]
			b, code := Put(e)
			got, getCode := Get(b)
			if code != api.OK || getCode != api.OK {
				t.Fatalf("%v: %d, %d", e, code, getCode)
			}
			if checkPlain(t, append(slices.Clone(l), got)) == api.OK {
				l = append(l, e)
			}
		}
		if len(l) < 20 {
			t.Errorf("only %d entries", len(l))
		}
	}
}

// Rule 1: a long manifest ends soon.
func TestFoldLong(t *testing.T) {
	const n = 200000
	var l []api.Entry
	for i := range n {
		l = append(l, adding(i, n-i))
	}
	for i := range n - 1 {
		l = append(l, dropping(n, i+1))
	}
	checkFold(t, l, []api.Info{infoOf(n)}, policy.Default(), 0, api.OK)
	checkFault(t, append(l, adding(n, 1)), api.ErrTwice)
	checkFault(t, append(l, dropping(n, 1)), api.ErrNone)
	checkFault(t, append(l, viewing(n-1)), api.ErrView)
}

// Same: every part counts.
func TestSame(t *testing.T) {
	all := append(some(), wrong()...)
	all = append(all, api.Entry{})
	for i, a := range all {
		for j, b := range all {
			if Same(a, b) != (a == b) {
				t.Errorf("Same of %d and %d = %v", i, j, Same(a, b))
			}
		}
	}
	e := api.Entry{Kind: 1, View: 2, Id: 3, Tier: 1, From: 5, To: 6, Sum: 7, Text: "x"}
	l := slices.Repeat([]api.Entry{e}, 8)
	l[0].Kind++
	l[1].View++
	l[2].Id++
	l[3].Tier++
	l[4].From++
	l[5].To++
	l[6].Sum++
	l[7].Text = "y"
	for i, other := range l {
		if Same(e, other) || Same(other, e) || !Same(other, other) {
			t.Errorf("%d: Same(%v, %v)", i, e, other)
		}
	}
}

// SameInfo: every part of each counts, and their order; nothing and an empty list are alike.
func TestSameInfo(t *testing.T) {
	same := func(a, b []api.Info, want bool) {
		t.Helper()
		if SameInfo(a, b) != want || SameInfo(b, a) != want {
			t.Errorf("SameInfo(%v, %v) = %v", a, b, !want)
		}
	}
	one, two := infoOf(1), infoOf(2)
	others := slices.Repeat([]api.Info{one}, 5)
	others[0].Id++
	others[1].Tier++
	others[2].From++
	others[3].To++
	others[4].Sum++
	same(nil, nil, true)
	same(nil, []api.Info{}, true)
	same([]api.Info{one}, []api.Info{one}, true)
	same([]api.Info{one, two}, []api.Info{one, two}, true)
	same([]api.Info{one, one}, []api.Info{one, one}, true)
	same(nil, []api.Info{{}}, false)
	same(nil, []api.Info{one}, false)
	same([]api.Info{one}, []api.Info{one, two}, false)
	same([]api.Info{one}, []api.Info{one, one}, false)
	same([]api.Info{one, two}, []api.Info{two, one}, false)
	same([]api.Info{one, two}, []api.Info{two, two}, false)
	for _, x := range others {
		same([]api.Info{one}, []api.Info{x}, false)
		same([]api.Info{two, one}, []api.Info{two, x}, false)
		same([]api.Info{one, two}, []api.Info{x, two}, false)
	}
}
