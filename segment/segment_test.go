package segment

import (
	"bytes"
	"encoding/binary"
	"fmt"
	"math"
	"math/big"
	"slices"
	"testing"

	"twinkeep/api"
	"twinkeep/block"
	"twinkeep/tier"
)

// widths: of the tiers, at their places.
var widths = []int64{1, 5, 60, 1440}

// at: samples at these times, of values that go with a time alone.
func at(times ...int64) []api.Sample {
	var l []api.Sample
	for _, t := range times {
		l = append(l, api.Sample{T: t, V: t*t%101 - 50})
	}
	return l
}

// every: n samples, each step above the one ahead.
func every(first, step int64, n int) []api.Sample {
	var times []int64
	for i := range int64(n) {
		times = append(times, first+i*step)
	}
	return at(times...)
}

// fine: a segment of tier 0 with samples at these times.
func fine(id int, from, to int64, times ...int64) api.Seg {
	return api.Seg{Id: id, From: from, To: to, Samples: at(times...)}
}

// one: a window in which a single value was seen.
func one(from, v int64) api.Agg {
	return api.Agg{From: from, Count: 1, Sum: v, Min: v, Max: v, First: v, Last: v}
}

// many: a window in which several values were seen, of that sum.
func many(from, count, sum int64) api.Agg {
	return api.Agg{From: from, Count: count, Sum: sum, Min: -9, Max: 9, First: 3, Last: -4}
}

// ones: windows of one value each that begin at these times.
func ones(froms ...int64) []api.Agg {
	var l []api.Agg
	for _, from := range froms {
		l = append(l, one(from, from%7-3))
	}
	return l
}

// row: n windows of tier k, side by side, each as great in bytes as may be.
func row(from int64, k, n int) []api.Agg {
	var l []api.Agg
	for i := range int64(n) {
		l = append(l, api.Agg{
			From: from + i*widths[k], Count: api.MaxTime, Sum: math.MinInt64,
			Min: math.MinInt64, Max: math.MaxInt64, First: math.MaxInt64, Last: math.MaxInt64,
		})
	}
	return l
}

// wide: a segment of a tier above 0.
func wide(id, k int, from, to int64, l ...api.Agg) api.Seg {
	return api.Seg{Id: id, Tier: k, From: from, To: to, Aggs: l}
}

// some: segments that may be, at the edges of each part.
func some() []api.Seg {
	last := int64(api.MaxTime)
	l := []api.Seg{
		fine(1, 0, 1, 0), fine(3, 2, 20, 4, 9), fine(api.MaxViews, 0, 5, 0, 4), fine(127, 5, 6, 5), fine(128, 0, last, 0, last-1),
		fine(9, last-1, last, last-1), fine(9, 0, last, 7), fine(9, 100, 1000, 100, 101, 998, 999), fine(9, 300, 428, 300), fine(9, 300, 427, 400),
		{Id: 2, To: 64, Samples: every(0, 1, api.MaxSamples)}, {Id: 2, From: 7, To: 7000, Samples: every(9, 100, api.MaxSamples)},
		{Id: 2, To: 9, Samples: []api.Sample{{T: 1, V: math.MinInt64}, {T: 2, V: math.MaxInt64}, {T: 3}}},
		{Id: 2, To: 9, Samples: at(1), Aggs: []api.Agg{}},
	}
	for k := 1; k < api.Tiers; k++ {
		w := widths[k]
		end := last - last%w
		l = append(l,
			wide(1, k, 0, 1, ones(0)...), wide(api.MaxViews, k, w+2, w+4, ones(w)...), wide(2, k, w+2, 2*w, ones(w)...), wide(2, k, w, w+1, many(w, 2, 5)),
			wide(2, k, w-1, w+1, ones(0, w)...), wide(2, k, w-1, w+1, ones(w)...), wide(2, k, w-1, w+1, ones(0)...), wide(2, k, end-1, last, ones(end-w)...),
			wide(2, k, 0, last, many(0, api.MaxTime, math.MaxInt64), many(end-w, 3, math.MinInt64)),
			wide(2, k, 0, last, ones(0, w, 5*w, 1000*w)...), wide(2, k, 3, api.MaxAggs*w, row(0, k, api.MaxAggs)...),
			api.Seg{Id: 2, Tier: k, From: 1, To: 5, Samples: []api.Sample{}, Aggs: ones(0)},
		)
		if end < last {
			l = append(l, wide(2, k, last-1, last, ones(end)...), wide(2, k, end, last, ones(end)...))
		}
	}
	return l
}

// wrong: segments that may not be, in one part each.
func wrong() []api.Seg {
	last := int64(api.MaxTime)
	l := []api.Seg{
		{}, {Id: 1}, {Id: 1, To: 5},
		fine(0, 0, 5, 1), fine(-1, 0, 5, 1), fine(math.MinInt, 0, 5, 1), fine(api.MaxViews+1, 0, 5, 1), fine(math.MaxInt, 0, 5, 1), fine(1<<32+1, 0, 5, 1),
		fine(1, -1, 5, 1), fine(1, math.MinInt64, 5, 1), fine(1, 5, 5, 5), fine(1, 5, 4, 5), fine(1, 5, 0, 5), fine(1, 5, -1, 5), fine(1, last, last, last),
		fine(1, 0, last+1, 1), fine(1, 0, math.MaxInt64, 1), fine(1, 0, last+1, last), fine(1, last, last+1, last),
		fine(1, 0, 5), fine(1, 2, 5, 1), fine(1, 2, 5, 1, 3), fine(1, 0, 5, 5), fine(1, 0, 5, 1, 5), fine(1, 0, 5, 1, 6), fine(1, 0, last, last),
		fine(1, 0, 9, 3, 3), fine(1, 0, 9, 4, 3), fine(1, 0, 9, 1, 5, 4, 6), fine(1, 0, 9, -1, 2), fine(1, 2, 9, 3, 1, 4), fine(1, 2, 9, 3, 10, 4),
		{Id: 1, To: 65, Samples: every(0, 1, api.MaxSamples+1)}, {Id: 1, To: 9000, Samples: every(0, 3, 1000)},
		{Id: 1, To: 5, Samples: at(1), Aggs: ones(0)}, {Id: 1, To: 5, Samples: at(1), Aggs: make([]api.Agg, 1)}, {Id: 1, To: 5, Aggs: ones(0)},
	}
	for _, k := range []int{math.MinInt, -4, -1, 4, 5, 1 << 32, 1<<32 + 1, math.MaxInt} {
		l = append(l, wide(1, k, 0, 5), wide(1, k, 0, 5, ones(0)...), api.Seg{Id: 1, Tier: k, To: 5, Samples: at(1)})
	}
	for k := 1; k < api.Tiers; k++ {
		w := widths[k]
		bad := one(0, 4)
		bad.Sum++
		l = append(l,
			wide(1, k, 0, 5), api.Seg{Id: 1, Tier: k, To: 5, Samples: at(1)}, api.Seg{Id: 1, Tier: k, To: 5, Samples: at(1), Aggs: ones(0)},
			wide(0, k, 0, 5, ones(0)...), wide(api.MaxViews+1, k, 0, 5, ones(0)...), wide(1, k, -1, 5, ones(0)...), wide(1, k, 5, 5, ones(0)...),
			wide(1, k, 0, last+1, ones(0)...), wide(1, k, w, 9*w, ones(0)...), wide(1, k, w, 9*w, ones(0, w)...), wide(1, k, 2*w+1, 9*w, ones(w)...),
			wide(1, k, 0, w, ones(w)...), wide(1, k, 0, w, ones(0, w)...), wide(1, k, 0, w+1, ones(0, 2*w)...), wide(1, k, 0, w, ones(w+1)...),
			wide(1, k, 0, 9*w, ones(1)...), wide(1, k, 0, 9*w, ones(w-1)...), wide(1, k, 0, 9*w, ones(w, w)...), wide(1, k, 0, 9*w, ones(2*w, w)...),
			wide(1, k, 2*w, 9*w, ones(3*w, w, 4*w)...), wide(1, k, 0, 9*w, ones(-w)...), wide(1, k, 0, 9*w, ones(0, 3*w, 2*w)...),
			wide(1, k, 0, 5, bad), wide(1, k, 0, 5, api.Agg{}), wide(1, k, 0, 5, many(0, api.MaxTime+1, 1)), wide(1, k, 0, 5, many(0, 0, 1)),
			wide(1, k, 0, last, row(0, k, api.MaxAggs+1)...), wide(1, k, 0, last, row(0, k, 1000)...),
		)
	}
	return l
}

// mayBe: whether s may be a segment, by chapter 8's words, of each sample and each window by itself.
func mayBe(s api.Seg) bool {
	if s.Id < 1 || s.Id > 1<<30 || s.Tier < 0 || s.Tier > 3 || s.From < 0 || s.From >= s.To || s.To > 1<<40 {
		return false
	}
	if len(s.Samples) > 64 || len(s.Aggs) > 64 || (s.Tier == 0) != (len(s.Samples) > 0) || (s.Tier == 0) == (len(s.Aggs) > 0) {
		return false
	}
	for i, x := range s.Samples {
		if x.T < s.From || x.T >= s.To || i > 0 && x.T <= s.Samples[i-1].T {
			return false
		}
	}
	for i, a := range s.Aggs {
		if !tier.Aligned([]api.Agg{a}, s.Tier) || a.From < s.From/widths[s.Tier]*widths[s.Tier] || a.From >= s.To || i > 0 && a.From <= s.Aggs[i-1].From {
			return false
		}
	}
	return true
}

// sumOf: b's sum, in numbers of any size.
func sumOf(b []byte) uint32 {
	s := big.NewInt(1)
	for _, c := range b {
		s.Mul(s, big.NewInt(257)).Add(s, big.NewInt(int64(c)+1)).Mod(s, big.NewInt(1<<32-5))
	}
	return uint32(s.Uint64())
}

// summed: b with its sum behind it.
func summed(b []byte) []byte {
	return binary.LittleEndian.AppendUint32(slices.Clone(b), sumOf(b))
}

// headed: these four numbers behind the mark, then the rest, then the sum of all.
func headed(id, k, from, span uint64, rest []byte) []byte {
	b := []byte{0x54, 0x4B}
	for _, n := range []uint64{id, k, from, span} {
		b = binary.AppendUvarint(b, n)
	}
	return summed(append(b, rest...))
}

// blockBytes: the block of s by itself.
func blockBytes(s api.Seg) []byte {
	b, _ := block.Put(s.Samples)
	if s.Tier > 0 {
		b, _ = block.PutAggs(s.Aggs, s.Tier)
	}
	return b
}

// bytesOf: what Put is to make of s, by chapter 8's words.
func bytesOf(s api.Seg) []byte {
	return headed(uint64(s.Id), uint64(s.Tier), uint64(s.From), uint64(s.To-s.From), blockBytes(s))
}

// equal: whether all parts are the same, without the help of Same.
func equal(a, b api.Seg) bool {
	return slices.Equal([]int64{int64(a.Id), int64(a.Tier), a.From, a.To}, []int64{int64(b.Id), int64(b.Tier), b.From, b.To}) &&
		slices.Equal(a.Samples, b.Samples) && slices.Equal(a.Aggs, b.Aggs)
}

func copied(s api.Seg) api.Seg {
	s.Samples, s.Aggs = slices.Clone(s.Samples), slices.Clone(s.Aggs)
	return s
}

func copiedAll(l []api.Seg) []api.Seg {
	var out []api.Seg
	for _, s := range l {
		out = append(out, copied(s))
	}
	return out
}

// spoil: writes over all that s has, and behind it, as its owner may.
func spoil(s api.Seg) {
	for i := range s.Samples {
		s.Samples[i] = api.Sample{T: -7, V: -7}
	}
	for i := range s.Aggs {
		s.Aggs[i] = api.Agg{From: -7, Count: -7}
	}
	_ = append(s.Samples, api.Sample{T: -7, V: -7})
	_ = append(s.Aggs, api.Agg{From: -7, Count: -7})
}

// short: a few words of what might fill pages.
func short(s api.Seg) string {
	return fmt.Sprintf("{%d %d %d..%d %d samples %d windows}", s.Id, s.Tier, s.From, s.To, len(s.Samples), len(s.Aggs))
}

// checkBytes: nobody has anything of b.
func checkBytes(t *testing.T, b []byte) {
	t.Helper()
	if s, code := Get(b); !equal(s, api.Seg{}) || code != api.ErrBytes {
		t.Errorf("Get(% X) = %v, %d; want nothing, ErrBytes", b, s, code)
	}
	if i, code := Info(b); i != (api.Info{}) || code != api.ErrBytes {
		t.Errorf("Info(% X) = %v, %d; want nothing, ErrBytes", b, i, code)
	}
}

// checkOnly: b is what Put makes of what Get has of it, or Get and Info have nothing; tells which.
func checkOnly(t *testing.T, b []byte) bool {
	t.Helper()
	s, code := Get(b)
	if code != api.OK {
		checkBytes(t, b)
		return false
	}
	if !mayBe(s) || !bytes.Equal(bytesOf(s), b) {
		t.Errorf("Get(% X) = %v, of which Put makes other bytes", b, s)
	}
	return true
}

// 8.1: what may be, and what may not in one part.
func TestMay(t *testing.T) {
	for _, s := range some() {
		if !May(s) || !mayBe(s) {
			t.Errorf("May(%v) = %v", s, May(s))
		}
	}
	for _, s := range wrong() {
		if May(s) {
			t.Errorf("May(%v) = true", s)
		}
	}
}

// 8.1: all segments of up to two samples or windows about the edges, held against the words.
func TestMayPlain(t *testing.T) {
	times := []int64{math.MinInt64, -5, -1, 0, 1, 4, 5, 6, 59, 60, 61, 120, api.MaxTime - 1, api.MaxTime, api.MaxTime + 1, math.MaxInt64}
	well := map[int]int{}
	check := func(s api.Seg) {
		want := mayBe(s)
		if May(s) != want {
			t.Errorf("May(%v) = %v", s, !want)
		}
		if want {
			well[s.Tier]++
		}
	}
	for _, from := range times {
		for _, to := range times {
			for _, a := range times {
				check(fine(1, from, to, a))
				check(wide(1, 1, from, to, ones(a)...))
				check(wide(1, 2, from, to, ones(a)...))
				check(wide(1, 3, from, to, ones(a)...))
				for _, b := range times {
					check(fine(1, from, to, a, b))
					check(wide(1, 1, from, to, ones(a, b)...))
					check(wide(1, 2, from, to, ones(a, b)...))
				}
			}
		}
	}
	for k := range api.Tiers {
		if well[k] < 20 {
			t.Errorf("only %d of the segments of tier %d may be", well[k], k)
		}
	}
}

// 8.2: the bytes of segments, worked out by hand.
func TestPutWritten(t *testing.T) {
	for _, c := range []struct {
		s    api.Seg
		want []byte
	}{
		{
			api.Seg{Id: 3, From: 2, To: 20, Samples: []api.Sample{{T: 4, V: 0}, {T: 9, V: 10}}},
			[]byte{0x54, 0x4B, 3, 0, 2, 18, 2, 4, 0, 10, 20},
		},
		{
			api.Seg{Id: 300, From: 0, To: 1, Samples: []api.Sample{{T: 0, V: -1}}},
			[]byte{0x54, 0x4B, 0xAC, 2, 0, 0, 1, 1, 0, 1},
		},
		{
			api.Seg{Id: api.MaxViews, Tier: 1, From: 7, To: 9, Aggs: []api.Agg{one(5, 2)}},
			[]byte{0x54, 0x4B, 0x80, 0x80, 0x80, 0x80, 4, 1, 7, 2, 1, 1, 0, 4},
		},
		{
			api.Seg{Id: 1, Tier: 3, From: 0, To: api.MaxTime, Aggs: []api.Agg{{From: 1440, Count: 2, Sum: 3, Min: 1, Max: 2, First: 1, Last: 2}}},
			[]byte{0x54, 0x4B, 1, 3, 0, 0x80, 0x80, 0x80, 0x80, 0x80, 0x20, 1, 1, 1, 2, 1, 6, 0, 1},
		},
	} {
		if b, code := Put(c.s); code != api.OK || !bytes.Equal(b, summed(c.want)) {
			t.Errorf("Put(%v) = % X, %d; want % X", c.s, b, code, summed(c.want))
		}
	}
	// 54 4B 01 00 00 01 01 00 00: a sum worked out apart from the program, its lowest byte first.
	want := []byte{0x54, 0x4B, 1, 0, 0, 1, 1, 0, 0, 0x0F, 0x8F, 0xF4, 0x4A}
	if b, code := Put(api.Seg{Id: 1, To: 1, Samples: []api.Sample{{}}}); code != api.OK || !bytes.Equal(b, want) {
		t.Errorf("% X, %d; want % X", b, code, want)
	}
}

// 8.2: what is put is what the words say, and is got; the answers are the caller's own.
func TestPutGet(t *testing.T) {
	for _, s := range some() {
		given := copied(s)
		b, code := Put(given)
		if code != api.OK || !bytes.Equal(b, bytesOf(s)) || !equal(given, s) {
			t.Fatalf("Put(%v) = % X, %d; want % X", s, b, code, bytesOf(s))
		}
		got, code := Get(b)
		if code != api.OK || !equal(got, s) {
			t.Fatalf("Get(% X) = %v, %d; want %v", b, got, code, s)
		}
		spoil(got)
		if !bytes.Equal(b, bytesOf(s)) {
			t.Errorf("Get of %s has changed, or shares, what it was given", short(s))
		}
		again, _ := Get(b)
		clear(b)
		_ = append(b, 1, 2, 3)
		if !equal(again, s) || !equal(given, s) {
			t.Errorf("%s: the bytes share memory with the segment", short(s))
		}
	}
}

// 8.2: ErrArg, and no bytes, of what may not be.
func TestPutWrong(t *testing.T) {
	for _, s := range wrong() {
		given := copied(s)
		if b, code := Put(given); len(b) != 0 || code != api.ErrArg || !equal(given, s) {
			t.Errorf("Put(%s) = % X, %d; want nothing, ErrArg", short(s), b, code)
		}
	}
}

// 8.2: the greatest bytes that each part may have together still make a file.
func TestPutGreatest(t *testing.T) {
	for k := 1; k < api.Tiers; k++ {
		step := api.MaxTime / 65 / widths[k] * widths[k]
		l := row(0, k, api.MaxAggs)
		for i := range l {
			l[i].From = int64(i+1) * step
		}
		s := wide(api.MaxViews, k, step, api.MaxTime, l...)
		b, code := Put(s)
		if code != api.OK || len(b) > api.MaxFile || len(b) < 3800 {
			t.Errorf("tier %d: %d bytes, %d", k, len(b), code)
		}
		if got, code := Get(b); code != api.OK || !equal(got, s) {
			t.Errorf("tier %d: Get = %s, %d", k, short(got), code)
		}
	}
}

// 8.2: what a manifest tells of a segment.
func TestInfo(t *testing.T) {
	for _, s := range some() {
		b := bytesOf(s)
		want := api.Info{Id: s.Id, Tier: s.Tier, From: s.From, To: s.To, Sum: sumOf(b[:len(b)-4])}
		if want.Sum != binary.LittleEndian.Uint32(b[len(b)-4:]) {
			t.Fatal("the test's own sum")
		}
		if got, code := Info(b); code != api.OK || got != want || !bytes.Equal(b, bytesOf(s)) {
			t.Errorf("Info(% X) = %v, %d; want %v", b, got, code, want)
		}
	}
}

// 8.2: the files' names, which have no end.
func TestName(t *testing.T) {
	for _, c := range []struct {
		id   int
		want string
	}{
		{3, "s3"}, {1, "s1"}, {9, "s9"}, {10, "s10"}, {12, "s12"}, {100, "s100"}, {api.MaxViews, "s1073741824"}, {api.MaxViews + 1, "s1073741825"},
		{math.MaxInt, "s9223372036854775807"}, {0, ""}, {-1, ""}, {-12, ""}, {math.MinInt, ""},
	} {
		if got := Name(c.id); got != c.want {
			t.Errorf("Name(%d) = %q, want %q", c.id, got, c.want)
		}
	}
}

// 8.2, 8.4: no beginning of a segment's bytes is one, and nothing may stand behind it, though the sum be made for it.
func TestGetCutOrLonger(t *testing.T) {
	for _, b := range [][]byte{nil, {}, {0}, {1, 0, 0, 0}, summed(nil), summed([]byte{0x54}), summed([]byte{0x54, 0x4B}), {0x54, 0x4B}, make([]byte, 9000)} {
		checkBytes(t, b)
	}
	for _, s := range some() {
		b := bytesOf(s)
		bare := b[:len(b)-4]
		step := 1 + len(b)/500
		for n := 0; n < len(b); n += step {
			checkBytes(t, b[:n])
		}
		for n := 0; n < len(bare); n += step {
			checkBytes(t, summed(bare[:n]))
		}
		for _, c := range []byte{0, 1, 0x7F, 0x80, 0xFF} {
			checkBytes(t, append(slices.Clone(b), c))
			checkBytes(t, summed(append(slices.Clone(bare), c)))
		}
		checkBytes(t, append(slices.Clone(b), b...))
		checkBytes(t, summed(b))
		checkBytes(t, b[1:])
		// What lies behind in the same memory is not read.
		if got, code := Get(append(slices.Clone(b), 1, 2, 3)[:len(b)]); code != api.OK || !equal(got, s) {
			t.Errorf("Get(% X) = %v, %d", b, got, code)
		}
	}
}

// 8.4: each byte changed to each other is told; with the sum made anew it is no segment, or another one that Put makes.
func TestGetChanged(t *testing.T) {
	others := 0
	for _, s := range some() {
		b := bytesOf(s)
		if len(b) > 300 {
			continue
		}
		for i := range b {
			was := b[i]
			for n := range 255 {
				b[i] = was + byte(n+1)
				checkBytes(t, b)
				if i < len(b)-4 && (len(b) < 40 || n%16 == 0) && checkOnly(t, summed(b[:len(b)-4])) {
					others++
				}
			}
			b[i] = was
		}
	}
	if others < 1000 {
		t.Errorf("only %d of the changes made another segment", others)
	}
}

// 8.4: bytes turned about, doubled, left out or zeroed are told.
func TestGetTorn(t *testing.T) {
	for _, s := range some() {
		b := bytesOf(s)
		for i := range min(len(b)-1, 200) {
			if b[i] != b[i+1] {
				c := slices.Clone(b)
				c[i], c[i+1] = c[i+1], c[i]
				checkBytes(t, c)
			}
			checkBytes(t, slices.Delete(slices.Clone(b), i, i+1))
			checkBytes(t, slices.Insert(slices.Clone(b), i, b[i]))
			c := slices.Clone(b)
			clear(c[i:])
			if !bytes.Equal(c, b) {
				checkBytes(t, c)
			}
		}
	}
}

// 8.2, 8.4: parts that are well as numbers, with their right sum, but of which no segment is made.
func TestGetWrong(t *testing.T) {
	samples := blockBytes(fine(1, 0, 9, 3))
	none, _ := block.Put(nil)
	windows := blockBytes(wide(1, 1, 0, 9, ones(5)...))
	const most = math.MaxUint64
	if !checkOnly(t, headed(1, 0, 0, 9, samples)) || !checkOnly(t, headed(1, 1, 0, 9, windows)) {
		t.Error("what is well is refused")
	}
	for _, b := range [][]byte{
		// No such Id.
		headed(0, 0, 0, 9, samples), headed(api.MaxViews+1, 0, 0, 9, samples), headed(1<<32+1, 0, 0, 9, samples), headed(1<<63+1, 0, 0, 9, samples), headed(most, 0, 0, 9, samples),
		// No such tier, or another one's block.
		headed(1, 4, 0, 9, windows), headed(1, 4, 0, 9, samples), headed(1, 1<<32, 0, 9, samples), headed(1, 1<<32+1, 0, 9, windows), headed(1, 1<<63, 0, 9, samples),
		headed(1, most, 0, 9, windows), headed(1, most-2, 0, 9, windows), headed(1, 2, 0, 9, windows), headed(1, 3, 0, 9, windows),
		// Nothing in it.
		headed(1, 0, 0, 9, none), headed(1, 1, 0, 9, none), headed(1, 2, 0, 9, none), headed(1, 3, 0, 9, none), headed(1, 0, 0, 9, nil), headed(1, 1, 0, 9, nil),
		// No time in it, or time beyond the last, or wrapped round.
		headed(1, 0, 3, 0, samples), headed(1, 0, 0, api.MaxTime+1, samples), headed(1, 0, 1, api.MaxTime, samples), headed(1, 0, 3, most, samples),
		headed(1, 0, most, 10, samples), headed(1, 0, most-9, 19, samples), headed(1, 0, 1<<63, 1<<63+9, samples), headed(1, 0, 3, 1<<63, samples),
		headed(1, 0, api.MaxTime, 1, samples), headed(1, 0, 20, most-9, samples),
		// A sample, or a window, that lies elsewhere.
		headed(1, 0, 4, 9, samples), headed(1, 0, 0, 3, samples), headed(1, 1, 10, 9, windows), headed(1, 1, 0, 5, windows),
	} {
		checkBytes(t, b)
	}
}

// 8.2, 8.4: each wrong segment that can be written at all, with its right sum.
func TestGetWrongSegments(t *testing.T) {
	asked := 0
	for _, s := range wrong() {
		if s.Tier == 0 && len(s.Aggs) > 0 || s.Tier != 0 && len(s.Samples) > 0 || len(blockBytes(s)) == 0 {
			continue
		}
		checkBytes(t, bytesOf(s))
		asked++
	}
	if asked < 40 {
		t.Errorf("only %d", asked)
	}
}

// 8.2: a number with a byte more than it needs, in each place ahead of the block.
func TestGetLongNumbers(t *testing.T) {
	b := []byte{0x54, 0x4B, 3, 0, 2, 18, 2, 4, 0, 10, 20}
	if !checkOnly(t, summed(b)) {
		t.Error("the same without it is refused")
	}
	for i := 2; i < len(b); i++ {
		long := slices.Concat(b[:i], []byte{b[i] | 0x80, 0}, b[i+1:])
		checkBytes(t, summed(long))
	}
}

// 8.2: all bytes of a small alphabet behind the mark: those that are got are made.
func TestGetSmall(t *testing.T) {
	alphabet := []byte{0, 1, 2, 5, 0x80}
	count := 0
	var lay func(b []byte, n int)
	lay = func(b []byte, n int) {
		if n == 0 {
			if checkOnly(t, summed(b)) {
				count++
			}
			return
		}
		for _, c := range alphabet {
			lay(append(b, c), n-1)
		}
	}
	for n := range 8 {
		lay([]byte{0x54, 0x4B}, n)
	}
	if count < 50 {
		t.Errorf("only %d were segments", count)
	}
	checkBytes(t, summed([]byte{0x54, 0x4C, 1, 0, 0, 1, 1, 0, 0}))
	checkBytes(t, summed([]byte{0x4B, 0x54, 1, 0, 0, 1, 1, 0, 0}))
	checkBytes(t, summed([]byte{1, 0, 0, 1, 1, 0, 0}))
}

// Same: every part counts; nothing and an empty list are alike.
func TestSame(t *testing.T) {
	all := some()
	for i, a := range all {
		for j, b := range all {
			if Same(a, b) != equal(a, b) {
				t.Errorf("Same of %d and %d = %v", i, j, Same(a, b))
			}
		}
		if !Same(a, copied(a)) {
			t.Errorf("%s is not the same as itself", short(a))
		}
	}
	for _, s := range []api.Seg{fine(3, 2, 20, 4, 9), wide(3, 1, 2, 20, ones(0, 5)...)} {
		l := []api.Seg{s, s, s, s, copied(s), copied(s), copied(s), copied(s)}
		l[0].Id++
		l[1].Tier++
		l[2].From++
		l[3].To++
		l[4].Samples = append(l[4].Samples, api.Sample{T: 15})
		l[5].Aggs = append(l[5].Aggs, one(15, 0))
		if s.Tier == 0 {
			l[6].Samples[1].V++
			l[7].Samples[0].T++
		} else {
			l[6].Aggs[1].Last++
			l[7].Aggs[0].From++
		}
		for i, other := range l {
			if Same(s, other) || Same(other, s) {
				t.Errorf("%d: Same(%v, %v) = true", i, s, other)
			}
		}
	}
	if !Same(api.Seg{}, api.Seg{Samples: []api.Sample{}, Aggs: []api.Agg{}}) {
		t.Error("nothing and an empty list")
	}
}

// together: a, and b behind it, in numbers of any size; a code beside it.
func together(a, b api.Agg) (api.Agg, int) {
	if a.Count+b.Count > 1<<40 {
		return api.Agg{}, api.ErrArg
	}
	sum := new(big.Int).Add(big.NewInt(a.Sum), big.NewInt(b.Sum))
	if !sum.IsInt64() {
		return api.Agg{}, api.ErrOver
	}
	a.Sum = sum.Int64()
	a.Count += b.Count
	a.Last = b.Last
	if b.Min < a.Min {
		a.Min = b.Min
	}
	if b.Max > a.Max {
		a.Max = b.Max
	}
	return a, api.OK
}

// grouped: l with those that follow with one From together, from the left.
func grouped(l []api.Agg) ([]api.Agg, int) {
	var out []api.Agg
	for _, a := range l {
		n := len(out)
		if n == 0 || out[n-1].From != a.From {
			out = append(out, a)
			continue
		}
		both, code := together(out[n-1], a)
		if code != api.OK {
			return nil, code
		}
		out[n-1] = both
	}
	return out, api.OK
}

// rolledPlain: what Roll is to answer of segments that it takes, by chapter 8's words.
func rolledPlain(l []api.Seg, id, k int) (api.Seg, int) {
	var aggs []api.Agg
	for _, s := range l {
		for _, x := range s.Samples {
			aggs = append(aggs, one(x.T/widths[k]*widths[k], x.V))
		}
		aggs = append(aggs, s.Aggs...)
	}
	code := api.OK
	if k > 1 {
		aggs, code = grouped(aggs)
		for i := range aggs {
			aggs[i].From = aggs[i].From / widths[k] * widths[k]
		}
	}
	if code == api.OK {
		aggs, code = grouped(aggs)
	}
	if code != api.OK {
		return api.Seg{}, code
	}
	if len(aggs) > 64 {
		return api.Seg{}, api.ErrFull
	}
	return api.Seg{Id: id, Tier: k, From: l[0].From, To: l[len(l)-1].To, Aggs: aggs}, api.OK
}

// checkRoll: what Roll answers, that it changes nothing of what it was given, and that its answer is the caller's own.
func checkRoll(t *testing.T, l []api.Seg, id, k int, want api.Seg, wantCode int) {
	t.Helper()
	given := copiedAll(l)
	for i := range given {
		given[i].Samples = append(given[i].Samples, at(71)...)[:len(given[i].Samples)]
		given[i].Aggs = append(given[i].Aggs, ones(70)...)[:len(given[i].Aggs)]
	}
	got, code := Roll(given, id, k)
	if code != wantCode || !equal(got, want) {
		t.Errorf("Roll(%v, %d, %d) = %v, %d; want %v, %d", l, id, k, got, code, want, wantCode)
		return
	}
	if code == api.OK && (!mayBe(got) || !May(got)) {
		t.Errorf("Roll(%v, %d, %d) = %v, which may not be", l, id, k, got)
	}
	spoil(got)
	for i := range given {
		behind := given[i].Samples[:len(given[i].Samples)+1]
		windows := given[i].Aggs[:len(given[i].Aggs)+1]
		if !equal(given[i], l[i]) || behind[len(behind)-1].T != 71 || windows[len(windows)-1].From != 70 {
			t.Errorf("Roll(%v, %d, %d) shares, or has written to, what it was given", l, id, k)
		}
	}
}

// checkRollPlain: Roll held against the words, of segments that it takes.
func checkRollPlain(t *testing.T, l []api.Seg, id, k int) int {
	t.Helper()
	want, code := rolledPlain(l, id, k)
	checkRoll(t, l, id, k, want, code)
	return code
}

// 8.3: rolled up by hand: of samples, of windows, with a seam within a window of the tier below.
func TestRollWritten(t *testing.T) {
	samples := func(l ...int64) []api.Sample {
		var out []api.Sample
		for i := 0; i < len(l); i += 2 {
			out = append(out, api.Sample{T: l[i], V: l[i+1]})
		}
		return out
	}
	a := api.Seg{Id: 1, From: 0, To: 7, Samples: samples(1, 10, 6, 4)}
	b := api.Seg{Id: 2, From: 7, To: 20, Samples: samples(8, -1, 12, 5)}
	x := wide(3, 1, 0, 7, one(0, 10), one(5, 4))
	y := wide(4, 1, 7, 20, one(5, -1), one(10, 5))
	checkRoll(t, []api.Seg{a}, 3, 1, x, api.OK)
	checkRoll(t, []api.Seg{b}, 4, 1, y, api.OK)
	five := api.Agg{From: 5, Count: 2, Sum: 3, Min: -1, Max: 4, First: 4, Last: -1}
	checkRoll(t, []api.Seg{a, b}, 9, 1, wide(9, 1, 0, 20, one(0, 10), five, one(10, 5)), api.OK)
	all := api.Agg{From: 0, Count: 4, Sum: 18, Min: -1, Max: 10, First: 10, Last: 5}
	checkRoll(t, []api.Seg{x, y}, 5, 2, wide(5, 2, 0, 20, all), api.OK)
	checkRoll(t, []api.Seg{wide(5, 2, 0, 20, all)}, 6, 3, wide(6, 3, 0, 20, all), api.OK)
	// Three parts of one window, and one that begins ahead of the segment.
	parts := []api.Seg{wide(7, 2, 1441, 1442, one(1440, 1)), wide(8, 2, 1442, 1450, many(1440, 4, 6)), wide(9, 2, 1450, 3000, one(1440, 70), one(2880, 2))}
	checkRoll(t, parts, 1, 3, wide(1, 3, 1441, 3000, api.Agg{From: 1440, Count: 6, Sum: 77, Min: -9, Max: 70, First: 1, Last: 70}, one(2880, 2)), api.OK)
}

// 8.3: what Roll does not take, in one part each; the Id that it is handed may be one that is there.
func TestRollWrong(t *testing.T) {
	a, b, c := fine(1, 0, 7, 1, 6), fine(2, 7, 20, 8, 12), fine(3, 20, 30, 25)
	x, y := wide(4, 1, 0, 7, ones(0, 5)...), wide(5, 1, 7, 20, ones(5, 10)...)
	for _, l := range [][]api.Seg{nil, {}, {b, a}, {a, a}, {a, c}, {a, b, b}, {a, b, a}, {c, b, a}, {a, x}, {x, b}, {a, b, x}, {x}, {a, fine(9, 8, 9, 8)}, {a, fine(9, 6, 9, 8)}} {
		checkRoll(t, l, 9, 1, api.Seg{}, api.ErrArg)
	}
	for _, l := range [][]api.Seg{nil, {a}, {a, b}, {x, b}, {a, y}, {y, x}, {x, x}, {wide(1, 2, 0, 7, ones(0)...)}, {wide(1, 3, 0, 7, ones(0)...)}} {
		checkRoll(t, l, 9, 2, api.Seg{}, api.ErrArg)
	}
	checkRoll(t, []api.Seg{x, y}, 9, 3, api.Seg{}, api.ErrArg)
	checkRoll(t, []api.Seg{wide(1, 3, 0, 7, ones(0)...)}, 9, 3, api.Seg{}, api.ErrArg)
	for _, s := range wrong() {
		for k := -1; k <= api.Tiers+1; k++ {
			checkRoll(t, []api.Seg{s}, 9, k, api.Seg{}, api.ErrArg)
		}
		s.From, s.To = 7, max(s.To, 8)
		if !mayBe(s) {
			checkRoll(t, []api.Seg{a, s}, 9, 1, api.Seg{}, api.ErrArg)
			checkRoll(t, []api.Seg{x, s}, 9, 2, api.Seg{}, api.ErrArg)
		}
	}
	for _, k := range []int{math.MinInt, -1, 0, 4, 5, 1<<32 + 1, math.MaxInt} {
		for _, s := range []api.Seg{a, x, wide(1, 2, 0, 7, ones(0)...), wide(1, 3, 0, 7, ones(0)...)} {
			checkRoll(t, []api.Seg{s}, 9, k, api.Seg{}, api.ErrArg)
		}
	}
	for _, id := range []int{math.MinInt, -1, 0, api.MaxViews + 1, 1<<32 + 1, math.MaxInt} {
		checkRoll(t, []api.Seg{a, b}, id, 1, api.Seg{}, api.ErrArg)
		checkRoll(t, []api.Seg{x, y}, id, 2, api.Seg{}, api.ErrArg)
	}
	for _, id := range []int{1, 2, 5, api.MaxViews} {
		checkRollPlain(t, []api.Seg{a, b}, id, 1)
		checkRollPlain(t, []api.Seg{x, y}, id, 2)
	}
}

// 8.3: sums beyond 64 bits on their way: within a window of samples, of windows, and of parts, which go first.
func TestRollOver(t *testing.T) {
	const top = math.MaxInt64
	sampled := func(values ...int64) []api.Seg {
		var l []api.Seg
		for i, v := range values {
			l = append(l, api.Seg{Id: i + 1, From: int64(i), To: int64(i + 1), Samples: []api.Sample{{T: int64(i), V: v}}})
		}
		return l
	}
	checkRoll(t, sampled(top, 1), 9, 1, api.Seg{}, api.ErrOver)
	checkRoll(t, sampled(top, 1, -1), 9, 1, api.Seg{}, api.ErrOver)
	checkRoll(t, sampled(-top, -1, -1), 9, 1, api.Seg{}, api.ErrOver)
	checkRoll(t, sampled(0, 0, 0, 0, 0, 0, top, 1), 9, 1, api.Seg{}, api.ErrOver)
	for _, l := range [][]api.Seg{sampled(top), sampled(top, -1, 1), sampled(-top, -1), sampled(0, 0, 0, 0, top, 1)} {
		if code := checkRollPlain(t, l, 9, 1); code != api.OK {
			t.Errorf("Roll(%v) tells %d", l, code)
		}
	}
	for k := 2; k < api.Tiers; k++ {
		w := widths[k-1]
		// Together from the left all would fit: 5's parts alone do not.
		l := []api.Seg{wide(1, k-1, 0, w+1, many(0, 2, -top), many(w, 2, top)), wide(2, k-1, w+1, w+2, many(w, 2, top))}
		checkRoll(t, l, 9, k, api.Seg{}, api.ErrOver)
		// Together from the left the first two would not fit: the second one's parts make nothing.
		l = []api.Seg{wide(1, k-1, 0, w+1, many(0, 2, top), many(w, 2, 1)), wide(2, k-1, w+1, w+2, many(w, 2, -1))}
		checkRoll(t, l, 9, k, wide(9, k, 0, w+2, api.Agg{Count: 6, Sum: top, Min: -9, Max: 9, First: 3, Last: -4}), api.OK)
		checkRoll(t, []api.Seg{wide(1, k-1, 0, 9*w, many(0, 2, top), many(w, 2, 1), many(2*w, 2, -1))}, 9, k, api.Seg{}, api.ErrOver)
		checkRoll(t, []api.Seg{wide(1, k-1, 0, widths[k]+1, many(0, 2, top), many(widths[k], 2, 1))}, 9, k, wide(9, k, 0, widths[k]+1, many(0, 2, top), many(widths[k], 2, 1)), api.OK)
		// More than an Agg may count, in parts and in windows.
		checkRoll(t, []api.Seg{wide(1, k-1, 0, 1, many(0, api.MaxTime-1, 1)), wide(2, k-1, 1, 2, many(0, 2, 1))}, 9, k, api.Seg{}, api.ErrArg)
		checkRoll(t, []api.Seg{wide(1, k-1, 0, 9*w, many(0, api.MaxTime-1, 1), many(w, 2, 1))}, 9, k, api.Seg{}, api.ErrArg)
		checkRollPlain(t, []api.Seg{wide(1, k-1, 0, 1, many(0, api.MaxTime-2, 1)), wide(2, k-1, 1, 2, many(0, 2, 1))}, 9, k)
	}
}

// 8.3: MaxAggs windows fit, one more does not; a sum that is over is told ahead of that.
func TestRollFull(t *testing.T) {
	for k := 1; k < api.Tiers; k++ {
		lay := func(n int, v int64) []api.Seg {
			var l []api.Seg
			for i := range int64(n) {
				s := wide(int(i+1), k-1, i*widths[k], (i+1)*widths[k], one(i*widths[k], v), one(i*widths[k]+widths[k-1], v))
				if k == 1 {
					s.Samples, s.Aggs = []api.Sample{{T: s.From, V: v}, {T: s.From + 1, V: v}}, nil
				}
				l = append(l, s)
			}
			return l
		}
		if code := checkRollPlain(t, lay(api.MaxAggs, 3), 9, k); code != api.OK {
			t.Errorf("tier %d: MaxAggs tell %d", k, code)
		}
		checkRoll(t, lay(api.MaxAggs+1, 3), 9, k, api.Seg{}, api.ErrFull)
		checkRoll(t, lay(300, 3), 9, k, api.Seg{}, api.ErrFull)
		over := slices.Concat(lay(300, 3)[:299], lay(300, math.MaxInt64)[299:])
		checkRoll(t, over, 9, k, api.Seg{}, api.ErrOver)
	}
}

// 8.3: every way to seam a few samples, rolled up: held against the words, and tier by tier the same as at once.
func TestRollSeams(t *testing.T) {
	samples := at(0, 3, 4, 5, 58, 59, 60, 64, 119, 1439, 1440, 2000)
	for seams := range 1 << (len(samples) - 1) {
		var l []api.Seg
		var to int64
		begin := 0
		for i, x := range samples {
			if i < len(samples)-1 && seams>>i&1 == 0 {
				continue
			}
			from := to
			to = x.T + 1
			l = append(l, api.Seg{Id: i + 1, From: from, To: to, Samples: samples[begin : i+1]})
			begin = i + 1
		}
		checkRollPlain(t, l, 99, 1)
		// Each by itself to tier 1, these together to tier 2 in two halves, and both to tier 3.
		var ones []api.Seg
		for _, s := range l {
			one, code := Roll([]api.Seg{s}, 99, 1)
			if code != api.OK {
				t.Fatalf("Roll(%v) tells %d", s, code)
			}
			ones = append(ones, one)
		}
		checkRollPlain(t, ones, 99, 2)
		half := (len(ones) + 1) / 2
		twos := []api.Seg{}
		for _, part := range [][]api.Seg{ones[:half], ones[half:]} {
			if len(part) > 0 {
				two, _ := Roll(part, 99, 2)
				twos = append(twos, two)
			}
		}
		checkRollPlain(t, twos, 99, 3)
		want, _ := tier.Raw(samples, 3)
		if got, code := Roll(twos, 99, 3); code != api.OK || !equal(got, wide(99, 3, 0, 2001, want...)) {
			t.Fatalf("seams %b: %v, %d; want %v", seams, got, code, want)
		}
	}
}

// T1: what is put, got, rolled up, put and got again is what the samples come to, and nothing else; it always fits.
func TestRollFiles(t *testing.T) {
	seed := uint64(7)
	next := func(n int64) int64 {
		seed = seed*6364136223846793005 + 1442695040888963407
		return int64(seed>>33) % n
	}
	for range 200 {
		var all []api.Sample
		files := make([][][]byte, api.Tiers)
		time, to := next(10000), int64(0)
		for id := range int(1 + next(12)) {
			s := api.Seg{Id: id + 1, From: to}
			for range 1 + next(8) {
				s.Samples = append(s.Samples, api.Sample{T: time, V: next(1<<31) - 1<<30})
				time += 1 + next(40)
			}
			to = time
			s.To = to
			all = append(all, s.Samples...)
			files[0] = append(files[0], kept(t, s))
		}
		for k := 1; k < api.Tiers; k++ {
			for _, run := range runs(files[k-1], int(1+next(4))) {
				s, code := Roll(got(t, run), 50, k)
				if code != api.OK {
					t.Fatalf("tier %d: %d", k, code)
				}
				files[k] = append(files[k], kept(t, s))
			}
		}
		for k := 1; k < api.Tiers; k++ {
			want, _ := tier.Raw(all, k)
			var aggs []api.Agg
			for _, s := range got(t, files[k]) {
				aggs = append(aggs, s.Aggs...)
			}
			if aggs, _ = grouped(aggs); !slices.Equal(aggs, want) {
				t.Fatalf("tier %d: %v, want %v", k, aggs, want)
			}
		}
	}
}

func kept(t *testing.T, s api.Seg) []byte {
	t.Helper()
	b, code := Put(s)
	if code != api.OK {
		t.Fatalf("Put(%v) tells %d", s, code)
	}
	return b
}

func got(t *testing.T, files [][]byte) []api.Seg {
	t.Helper()
	var l []api.Seg
	for _, b := range files {
		s, code := Get(b)
		if code != api.OK {
			t.Fatalf("Get(% X) tells %d", b, code)
		}
		l = append(l, s)
	}
	return l
}

// runs: l in pieces of n.
func runs(l [][]byte, n int) [][][]byte { return slices.Collect(slices.Chunk(l, n)) }

// Rule 1: a long list ends soon.
func TestRollLong(t *testing.T) {
	var l, windows []api.Seg
	for i := range int64(300000) {
		l = append(l, api.Seg{Id: 1, From: 2 * i, To: 2*i + 2, Samples: []api.Sample{{T: 2 * i, V: 1}, {T: 2*i + 1, V: 2}}})
		windows = append(windows, wide(1, 2, i, i+1, one(i/60*60, 1)))
	}
	if s, code := Roll(l, 1, 1); code != api.ErrFull || !equal(s, api.Seg{}) {
		t.Errorf("%v, %d", s, code)
	}
	if s, code := Roll(windows[:64*1440], 1, 3); code != api.OK || len(s.Aggs) != 64 || s.Aggs[63].Count != 1440 || s.To != 64*1440 {
		t.Errorf("%v, %d", s, code)
	}
	if s, code := Roll(windows, 1, 3); code != api.ErrFull || !equal(s, api.Seg{}) {
		t.Errorf("%v, %d", s, code)
	}
}
