package block

import (
	"bytes"
	"encoding/binary"
	"math"
	"math/big"
	"slices"
	"testing"

	"twinkeep/api"
	"twinkeep/fold"
	"twinkeep/tier"
)

// widths: of the tiers that windows may have, at their places.
var widths = []int64{0, 5, 60, 1440}

// noTiers: numbers of no tier that has windows.
func noTiers() []int {
	return []int{math.MinInt, math.MinInt + 1, -3, -1, 0, 4, 5, 60, 1 << 32, 1<<32 + 1, math.MaxInt - 1, math.MaxInt}
}

// numbers: these numbers as bytes, by the library's own hand.
func numbers(l ...uint64) []byte {
	var b []byte
	for _, n := range l {
		b = binary.AppendUvarint(b, n)
	}
	return b
}

// zig: n as the library's own hand lays the sign.
func zig(n int64) uint64 {
	u, _ := binary.Uvarint(binary.AppendVarint(nil, n))
	return u
}

// less: a less b in numbers of any size, and then round 64 bits.
func less(a, b int64) int64 {
	d := new(big.Int).Sub(big.NewInt(a), big.NewInt(b))
	return int64(d.And(d, new(big.Int).SetUint64(math.MaxUint64)).Uint64())
}

// at: samples at these times, of values that go up and down.
func at(times ...int64) []api.Sample {
	var l []api.Sample
	for i, t := range times {
		l = append(l, api.Sample{T: t, V: (int64(i)*37+11)%101 - 50})
	}
	return l
}

// every: n samples, each step above the one ahead, all of one value.
func every(first, step, v int64, n int) []api.Sample {
	var l []api.Sample
	for i := range int64(n) {
		l = append(l, api.Sample{T: first + i*step, V: v})
	}
	return l
}

// valued: samples of these values, at times whose steps grow and shrink.
func valued(values ...int64) []api.Sample {
	var l []api.Sample
	t := int64(1000)
	for i, v := range values {
		t += int64(i)*int64(i)%7 + 1
		l = append(l, api.Sample{T: t, V: v})
	}
	return l
}

// edgeValues: the values about which their bytes, or their differences, change.
func edgeValues() []int64 {
	return []int64{
		0, 1, -1, 63, 64, -64, -65, 8191, 8192, -8192, -8193, 1 << 40, -1 << 40,
		1 << 62, -1 << 62, math.MaxInt64 - 1, math.MaxInt64, math.MinInt64, math.MinInt64 + 1,
	}
}

// some: lists of samples that may be: none, one, steady, wide apart, of values at every edge, as many as may be.
func some() [][]api.Sample {
	l := [][]api.Sample{
		nil, at(0), at(127), at(128), at(api.MaxTime), at(0, api.MaxTime), at(0, 1, api.MaxTime), at(0, api.MaxTime-1, api.MaxTime),
		at(3, 4, 5, 7, 58, 59, 60, 61, 64, 65, 1438, 1439, 1440, 1441, 3000, 100000, 100001, api.MaxTime-1, api.MaxTime),
		every(0, 1, 0, api.MaxSamples), every(7, 10, 5, api.MaxSamples), every(2, 64, -1, 9), every(0, api.MaxTime/63, math.MinInt64, api.MaxSamples),
		every(api.MaxTime-63, 1, math.MaxInt64, api.MaxSamples), valued(edgeValues()...),
	}
	for _, v := range edgeValues() {
		for _, w := range edgeValues() {
			l = append(l, valued(v, w, v))
		}
	}
	return l
}

// bytesOf: what Put is to make of l, by chapter 6's words over the times and values themselves.
func bytesOf(l []api.Sample) []byte {
	b := binary.AppendUvarint(nil, uint64(len(l)))
	for i, s := range l {
		switch i {
		case 0:
			b = binary.AppendUvarint(b, uint64(s.T))
			b = binary.AppendVarint(b, s.V)
			continue
		case 1:
			b = binary.AppendVarint(b, s.T-l[0].T)
		default:
			b = binary.AppendVarint(b, s.T-2*l[i-1].T+l[i-2].T)
		}
		b = binary.AppendVarint(b, less(s.V, l[i-1].V))
	}
	return b
}

// one: a window in which a single value was seen.
func one(from, v int64) api.Agg { return fold.One(api.Sample{V: v}, from) }

// alone: windows that may be by themselves, at the edges of each part; from is where each begins.
func alone(from int64) []api.Agg {
	l := []api.Agg{
		{From: from, Count: 2, Sum: 3, Min: 1, Max: 2, First: 1, Last: 2},
		{From: from, Count: 2, Sum: 3, Min: 1, Max: 2, First: 2, Last: 1},
		{From: from, Count: 3, Sum: math.MinInt64, Min: -5, Max: 5, First: 0, Last: 0},
		{From: from, Count: 128, Sum: math.MaxInt64}, {From: from, Count: 129, Sum: -1},
		{From: from, Count: api.MaxTime - 1}, {From: from, Count: api.MaxTime, Sum: 7, Min: -1, Max: 1, First: -1, Last: 1},
		{From: from, Count: 2, Min: math.MinInt64, Max: math.MaxInt64, First: math.MaxInt64, Last: math.MinInt64},
		{From: from, Count: 9, Min: math.MinInt64, Max: math.MaxInt64, First: math.MinInt64, Last: 0},
		{From: from, Count: 9, Min: math.MinInt64, Max: math.MinInt64, First: math.MinInt64, Last: math.MinInt64},
		{From: from, Count: 9, Min: math.MaxInt64, Max: math.MaxInt64, First: math.MaxInt64, Last: math.MaxInt64},
	}
	for _, v := range edgeValues() {
		l = append(l, one(from, v), api.Agg{From: from, Count: 2, Sum: v, Min: v, Max: v, First: v, Last: v})
	}
	return l
}

// someAggs: lists of windows of tier k that may be: none, side by side, wide apart, at both ends of time, as many as may be.
func someAggs(k int) [][]api.Agg {
	width := widths[k]
	last := api.MaxTime - api.MaxTime%width
	l := [][]api.Agg{nil, {one(0, 1), one(width, 1)}, {one(0, 1), one(2*width, 1), one(last, 3)}, {one(last-width, 2), one(last, -2)}}
	for _, from := range []int64{0, width, 127 * width, 128 * width, last} {
		for _, a := range alone(from) {
			l = append(l, []api.Agg{a})
		}
	}
	all := alone(0)
	for n, a := range all {
		var mixed, most []api.Agg
		for i := range int64(api.MaxAggs) {
			b := all[(int(i)+n)%len(all)]
			b.From = (i + i*i/5*i) * width
			mixed = append(mixed, b)
			a.From = last - (api.MaxAggs-1-i)*width
			most = append(most, a)
		}
		l = append(l, mixed, most)
	}
	return l
}

// bytesOfAggs: what PutAggs is to make of l, by chapter 6's words.
func bytesOfAggs(l []api.Agg, k int) []byte {
	b := binary.AppendUvarint(nil, uint64(len(l)))
	for i, a := range l {
		place := a.From / widths[k]
		if i > 0 {
			place = place - l[i-1].From/widths[k] - 1
		}
		b = append(b, numbers(uint64(place), uint64(a.Count-1), zig(a.Min))...)
		if a.Count > 1 {
			b = append(b, numbers(uint64(less(a.Max, a.Min)), zig(a.Sum), uint64(less(a.First, a.Min)), uint64(less(a.Last, a.Min)))...)
		}
	}
	return b
}

// checkBytes: Get has nothing of b.
func checkBytes(t *testing.T, b []byte) {
	t.Helper()
	if l, code := Get(b); len(l) != 0 || code != api.ErrBytes {
		t.Errorf("Get(% X) = %v, %d; want nothing, ErrBytes", b, l, code)
	}
}

// checkBytesAggs: GetAggs has nothing of b.
func checkBytesAggs(t *testing.T, b []byte, k int) {
	t.Helper()
	if l, code := GetAggs(b, k); len(l) != 0 || code != api.ErrBytes {
		t.Errorf("GetAggs(% X, %d) = %v, %d; want nothing, ErrBytes", b, k, l, code)
	}
}

// checkOnly: b is what Put makes of what Get has of it, or Get has nothing; tells which.
func checkOnly(t *testing.T, b []byte) bool {
	t.Helper()
	l, code := Get(b)
	if code != api.OK {
		if len(l) != 0 || code != api.ErrBytes {
			t.Errorf("Get(% X) = %v, %d", b, l, code)
		}
		return false
	}
	if !tier.Rising(l) || len(l) > api.MaxSamples || !bytes.Equal(bytesOf(l), b) {
		t.Errorf("Get(% X) = %v, of which Put makes other bytes", b, l)
	}
	return true
}

// checkOnlyAggs: as checkOnly, of windows.
func checkOnlyAggs(t *testing.T, b []byte, k int) bool {
	t.Helper()
	l, code := GetAggs(b, k)
	if code != api.OK {
		if len(l) != 0 || code != api.ErrBytes {
			t.Errorf("GetAggs(% X, %d) = %v, %d", b, k, l, code)
		}
		return false
	}
	if !tier.Aligned(l, k) || len(l) > api.MaxAggs || !bytes.Equal(bytesOfAggs(l, k), b) {
		t.Errorf("GetAggs(% X, %d) = %v, of which PutAggs makes other bytes", b, k, l)
	}
	return true
}

// eachOf: goes over all that n bytes of that alphabet may be.
func eachOf(alphabet []byte, n int, each func(b []byte)) {
	b := make([]byte, n)
	var lay func(i int)
	lay = func(i int) {
		if i == n {
			each(b)
			return
		}
		for _, c := range alphabet {
			b[i] = c
			lay(i + 1)
		}
	}
	lay(0)
}

// 6.1: the bytes of samples, worked out by hand.
func TestPutWritten(t *testing.T) {
	for _, c := range []struct {
		l    []api.Sample
		want []byte
	}{
		{nil, []byte{0}},
		{[]api.Sample{}, []byte{0}},
		{[]api.Sample{{T: 0, V: 0}}, []byte{1, 0, 0}},
		{[]api.Sample{{T: 300, V: 150}}, []byte{1, 0xAC, 2, 0xAC, 2}},
		{[]api.Sample{{T: 5, V: -3}}, []byte{1, 5, 5}},
		// 1<<40 is bit 40: the sixth bit of the sixth byte.
		{[]api.Sample{{T: api.MaxTime, V: 64}}, []byte{1, 0x80, 0x80, 0x80, 0x80, 0x80, 0x20, 0x80, 1}},
		// Steps 10, 10, 10: 10 above 0, then none above the one ahead.
		{[]api.Sample{{T: 7, V: 5}, {T: 17, V: 5}, {T: 27, V: 5}, {T: 37, V: 5}}, []byte{4, 7, 10, 20, 0, 0, 0, 0, 0}},
		// Steps 1, 3, 2: 1, 2, -1; values -2, 9, 9, 0: -2, 11, 0, -9.
		{[]api.Sample{{T: 0, V: -2}, {T: 1, V: 9}, {T: 4, V: 9}, {T: 6, V: 0}}, []byte{4, 0, 3, 2, 22, 4, 0, 1, 17}},
		// From the greatest to the least is 1 up, round 64 bits; and back 1 down.
		{
			[]api.Sample{{T: 1, V: math.MaxInt64}, {T: 2, V: math.MinInt64}, {T: 3, V: math.MaxInt64}},
			[]byte{3, 1, 0xFE, 0xFF, 0xFF, 0xFF, 0xFF, 0xFF, 0xFF, 0xFF, 0xFF, 1, 2, 2, 0, 1},
		},
		// From 0 to the least: the least int64, whose Zig is the greatest uint64.
		{
			[]api.Sample{{T: 1, V: 0}, {T: 2, V: math.MinInt64}},
			[]byte{2, 1, 0, 2, 0xFF, 0xFF, 0xFF, 0xFF, 0xFF, 0xFF, 0xFF, 0xFF, 0xFF, 1},
		},
	} {
		if b, code := Put(c.l); code != api.OK || !bytes.Equal(b, c.want) {
			t.Errorf("Put(%v) = % X, %d; want % X", c.l, b, code, c.want)
		}
	}
}

// 6.1: the bytes of samples, held against the chapter's words over numbers of any size.
func TestPut(t *testing.T) {
	for _, l := range some() {
		if b, code := Put(l); code != api.OK || !bytes.Equal(b, bytesOf(l)) {
			t.Errorf("Put(%v) = % X, %d; want % X", l, b, code, bytesOf(l))
		}
	}
}

// 6.1: samples that do not rise, whose times may not be, or that are too many.
func TestPutWrong(t *testing.T) {
	wrong := [][]api.Sample{
		at(1, 1), at(0, 0), at(2, 1), at(1, 2, 3, 3), at(1, 2, 3, 2), at(api.MaxTime, api.MaxTime), at(api.MaxTime, 0),
		at(-1), at(-1, 0, 1), at(0, 1, -1), at(math.MinInt64), at(math.MinInt64, 0), at(api.MaxTime + 1), at(0, api.MaxTime+1), at(0, math.MaxInt64),
		every(0, 1, 0, api.MaxSamples+1), every(0, 10, 3, api.MaxSamples+2), every(0, 1, 0, 1000000), make([]api.Sample, api.MaxSamples+1), make([]api.Sample, 2),
	}
	for _, l := range wrong {
		if b, code := Put(l); len(b) != 0 || code != api.ErrArg {
			t.Errorf("Put of %d = % X, %d; want nothing, ErrArg", len(l), b, code)
		}
	}
}

// 6.2: what was put is got.
func TestGetBack(t *testing.T) {
	for _, l := range some() {
		if got, code := Get(bytesOf(l)); code != api.OK || !slices.Equal(got, l) {
			t.Errorf("Get(% X) = %v, %d; want %v", bytesOf(l), got, code, l)
		}
	}
}

// 6.2: no beginning of a block is one, and nothing may stand behind it.
func TestGetCutOrLonger(t *testing.T) {
	checkBytes(t, nil)
	for _, l := range some() {
		b := bytesOf(l)
		for n := range b {
			checkBytes(t, b[:n])
		}
		for _, c := range []byte{0, 1, 0x7F, 0x80, 0xFF} {
			checkBytes(t, append(slices.Clone(b), c))
		}
		checkBytes(t, append(slices.Clone(b), b...))
		// What lies behind in the same memory is not read.
		if got, code := Get(append(b, 1, 2, 3)[:len(b)]); code != api.OK || !slices.Equal(got, l) {
			t.Errorf("Get(% X) = %v, %d", b, got, code)
		}
	}
}

// 6.2: numbers that are well by themselves, but of which no samples are made.
func TestGetWrong(t *testing.T) {
	for _, l := range [][]uint64{
		// Times that may not be, at first.
		{1, api.MaxTime + 1, 0}, {1, math.MaxInt64, 0}, {1, 1 << 63, 0}, {1, 1<<63 + 5, 0}, {1, math.MaxUint64, 0},
		// Steps of nothing and backwards, at once and behind a step.
		{2, 5, 0, 0, 0}, {2, 5, 0, zig(-1), 0}, {2, 5, 0, zig(-5), 0}, {2, 5, 0, zig(-6), 0}, {3, 5, 0, zig(4), 0, zig(-4), 0}, {3, 5, 0, zig(4), 0, zig(-5), 0},
		// Steps beyond the last time.
		{2, api.MaxTime, 0, zig(1), 0}, {2, 1, 0, zig(api.MaxTime), 0}, {3, 0, 0, zig(api.MaxTime / 2), 0, zig(1), 0}, {2, 0, 0, zig(math.MaxInt64), 0},
		// Beyond it, and back by steps that wrap round.
		{3, 0, 0, zig(math.MaxInt64), 0, zig(math.MinInt64), 0}, {3, 0, 0, zig(math.MinInt64), 0, zig(math.MinInt64), 0}, {2, 9, 0, zig(math.MinInt64), 0},
		{3, 1, 0, zig(math.MaxInt64), 0, zig(3), 0}, {3, 4, 0, zig(-2), 0, zig(5), 0}, {2, 1 << 63, 0, zig(math.MinInt64), 0}, {2, math.MaxUint64, 0, zig(6), 0},
		// Too many.
		{65}, {65, 0, 0}, {math.MaxUint64}, {1 << 32}, {1<<32 + 1, 0, 0}, {1 << 63}, {1<<63 + 1, 0, 0}, {1 << 31},
	} {
		checkBytes(t, numbers(l...))
	}
	tooMany := every(0, 1, 0, api.MaxSamples+1)
	checkBytes(t, bytesOf(tooMany))
	checkBytes(t, make([]byte, 1<<20))
	checkBytes(t, bytes.Repeat([]byte{1}, 1<<20))
	checkBytes(t, bytes.Repeat([]byte{0x80}, 1<<20))
}

// 6.2: a number with a byte more than it needs, in each place.
func TestGetLongNumbers(t *testing.T) {
	l := []uint64{2, 3, 4, zig(5), zig(-6)}
	for i := range l {
		b := slices.Concat(numbers(l[:i]...), []byte{byte(l[i]) | 0x80, 0}, numbers(l[i+1:]...))
		checkBytes(t, b)
	}
	if !checkOnly(t, numbers(l...)) {
		t.Error("the same without it is refused")
	}
}

// 6.2: all bytes that are short: of one and two, nothing is a block but 00; of three, those of one sample alone.
func TestGetShort(t *testing.T) {
	all := make([]byte, 256)
	for i := range all {
		all[i] = byte(i)
	}
	for n, want := range []int{0, 1, 0} {
		count := 0
		eachOf(all, n, func(b []byte) {
			if checkOnly(t, b) {
				count++
			}
		})
		if count != want {
			t.Errorf("%d blocks of %d bytes, want %d", count, n, want)
		}
	}
	count := 0
	for _, first := range []byte{0, 1, 2, 3, 64, 65, 0x80, 0x81, 0xFF} {
		eachOf(all, 2, func(b []byte) {
			if checkOnly(t, []byte{first, b[0], b[1]}) {
				count++
			}
		})
	}
	if count != 128*128 {
		t.Errorf("%d blocks of 3 bytes, want %d", count, 128*128)
	}
}

// 6.2: all bytes of a small alphabet: those that are got are made, and as many are got as there are lists that make them.
func TestGetSmall(t *testing.T) {
	// A number has 6 ways in one byte, and 5 in two or more: all but the last are 80, and the last is not 0.
	// A step behind the first has 2 ways in one byte (1 and 2), and 5 in two.
	oneSample := []int{0, 0, 0, 6 * 6, 2 * 6 * 5, 2*6*5 + 5*5, 2*6*5 + 2*5*5}
	twoSamples := []int{0, 0, 0, 0, 0, 6 * 6 * 2 * 6, 3*(5*6*2*6) + 6*6*5*6}
	for n := range oneSample {
		got := 0
		eachOf([]byte{0, 1, 2, 3, 4, 0x7F, 0x80}, n, func(b []byte) {
			if checkOnly(t, b) {
				got++
			}
		})
		want := oneSample[n] + twoSamples[n]
		if n == 1 {
			want++ // 00
		}
		if got != want {
			t.Errorf("%d blocks of %d bytes, want %d", got, n, want)
		}
	}
}

// 6.2: each byte of a block, changed to each other: no block, or that of other samples.
func TestGetChanged(t *testing.T) {
	for _, l := range append(some()[:20], every(7, 10, 5, 9), valued(1, -1, 1, 300, -300)) {
		b := bytesOf(l)
		for i := range b {
			for c := range 256 {
				changed := slices.Clone(b)
				changed[i] = byte(c)
				checkOnly(t, changed)
			}
		}
	}
}

// 6.1: the bytes of windows, worked out by hand.
func TestPutAggsWritten(t *testing.T) {
	more := api.Agg{Count: 3, Sum: 9, Min: 1, Max: 5, First: 1, Last: 3}
	whole := api.Agg{Count: 2, Sum: -1, Min: math.MinInt64, Max: math.MaxInt64, First: math.MinInt64, Last: math.MaxInt64}
	greatest := []byte{0xFF, 0xFF, 0xFF, 0xFF, 0xFF, 0xFF, 0xFF, 0xFF, 0xFF, 1}
	for k, width := range widths {
		if k == 0 {
			continue
		}
		second, far := one(width, -3), one(7*width, 4)
		moreFar := more
		moreFar.From = 300 * width
		for _, c := range []struct {
			l    []api.Agg
			want []byte
		}{
			{nil, []byte{0}},
			{[]api.Agg{}, []byte{0}},
			{[]api.Agg{one(0, 0)}, []byte{1, 0, 0, 0}},
			{[]api.Agg{second}, []byte{1, 1, 0, 5}},
			{[]api.Agg{more}, []byte{1, 0, 2, 2, 4, 18, 0, 2}},
			// Places 0, 1, 7: 0, then none between, then five between.
			{[]api.Agg{more, second, far}, []byte{3, 0, 2, 2, 4, 18, 0, 2, 0, 0, 5, 5, 0, 8}},
			{[]api.Agg{one(0, 1), far}, []byte{2, 0, 0, 2, 6, 0, 8}},
			{[]api.Agg{moreFar}, []byte{1, 0xAC, 2, 2, 2, 4, 18, 0, 2}},
			// From the least to the greatest is all 64 bits.
			{[]api.Agg{whole}, slices.Concat([]byte{1, 0, 1}, greatest, greatest, []byte{1, 0}, greatest)},
			// As many samples as may be: 1<<40 less 1.
			{[]api.Agg{{Count: api.MaxTime}}, []byte{1, 0, 0xFF, 0xFF, 0xFF, 0xFF, 0xFF, 0x1F, 0, 0, 0, 0, 0}},
		} {
			if b, code := PutAggs(c.l, k); code != api.OK || !bytes.Equal(b, c.want) {
				t.Errorf("PutAggs(%v, %d) = % X, %d; want % X", c.l, k, b, code, c.want)
			}
			if l, code := GetAggs(c.want, k); code != api.OK || !slices.Equal(l, c.l) {
				t.Errorf("GetAggs(% X, %d) = %v, %d; want %v", c.want, k, l, code, c.l)
			}
		}
	}
}

// 6.1: the last window of each tier: 1<<40 is 1099511627776, and its places are these.
func TestPutAggsLast(t *testing.T) {
	for k, place := range []uint64{0, 219902325555, 18325193796, 763549741} {
		if k == 0 {
			continue
		}
		l := []api.Agg{one(int64(place)*widths[k], 1)}
		want := numbers(1, place, 0, 2)
		if b, code := PutAggs(l, k); code != api.OK || !bytes.Equal(b, want) {
			t.Errorf("PutAggs(%v, %d) = % X, %d; want % X", l, k, b, code, want)
		}
		if got, code := GetAggs(want, k); code != api.OK || !slices.Equal(got, l) {
			t.Errorf("GetAggs(% X, %d) = %v, %d; want %v", want, k, got, code, l)
		}
		checkBytesAggs(t, numbers(1, place+1, 0, 2), k)
		checkBytesAggs(t, numbers(2, place, 0, 2, 0, 0, 2), k)
		if !checkOnlyAggs(t, numbers(2, place-1, 0, 2, 0, 0, 2), k) {
			t.Errorf("the last two windows of tier %d are refused", k)
		}
	}
}

// 6.1, 6.2: windows put, held against the chapter's words, and got again.
func TestAggs(t *testing.T) {
	for k := 1; k < api.Tiers; k++ {
		for _, l := range someAggs(k) {
			b, code := PutAggs(l, k)
			if code != api.OK || !bytes.Equal(b, bytesOfAggs(l, k)) {
				t.Errorf("PutAggs(%v, %d) = % X, %d; want % X", l, k, b, code, bytesOfAggs(l, k))
			}
			if got, code := GetAggs(bytesOfAggs(l, k), k); code != api.OK || !slices.Equal(got, l) {
				t.Errorf("GetAggs(% X, %d) = %v, %d; want %v", b, k, got, code, l)
			}
		}
	}
}

// 6.1: no tier, windows that are not Aligned by it, and too many.
func TestPutAggsWrong(t *testing.T) {
	check := func(l []api.Agg, k int) {
		t.Helper()
		if b, code := PutAggs(l, k); len(b) != 0 || code != api.ErrArg {
			t.Errorf("PutAggs of %d, %d = % X, %d; want nothing, ErrArg", len(l), k, b, code)
		}
	}
	for _, k := range noTiers() {
		check(nil, k)
		check([]api.Agg{one(0, 1)}, k)
		check([]api.Agg{one(0, 1), one(1440, 1)}, k)
	}
	for k, width := range widths {
		if k == 0 {
			continue
		}
		last := api.MaxTime - api.MaxTime%width
		for _, l := range [][]api.Agg{
			{one(1, 1)}, {one(width-1, 1)}, {one(width+1, 1)}, {one(0, 1), one(width+1, 1)}, {one(last+width, 1)}, {one(-width, 1)}, {one(math.MinInt64, 1)},
			{one(0, 1), one(0, 1)}, {one(width, 1), one(0, 1)}, {one(0, 1), one(2*width, 1), one(width, 1)}, {{}}, {{Count: -1}}, {{Count: api.MaxTime + 1}},
			{{Count: 1, Sum: 1}}, {{Count: 1, Max: 1}}, {{Count: 2, Min: 1}}, {{Count: 2, First: 1}}, {{Count: 2, Last: -1}}, {one(0, 1), {From: width}},
		} {
			check(l, k)
		}
		var most []api.Agg
		for i := range int64(api.MaxAggs + 1) {
			most = append(most, one(i*width, i))
		}
		check(most, k)
		checkBytesAggs(t, bytesOfAggs(most, k), k)
		most = most[:api.MaxAggs]
		if b, code := PutAggs(most, k); code != api.OK || !checkOnlyAggs(t, b, k) {
			t.Errorf("PutAggs of %d, %d = % X, %d", len(most), k, b, code)
		}
	}
	// Of tier 1, but of no coarser one.
	check([]api.Agg{one(65, 1)}, 2)
	check([]api.Agg{one(60, 1)}, 3)
}

// 6.2: no such tier is told ahead of wrong bytes.
func TestGetAggsNoTier(t *testing.T) {
	for _, k := range noTiers() {
		for _, b := range [][]byte{nil, {}, {0}, {1}, {0, 0}, {1, 0, 0, 0}, {1, 0, 0, 0, 0}, {0x80, 0}, {65}, make([]byte, 1<<20)} {
			if l, code := GetAggs(b, k); len(l) != 0 || code != api.ErrArg {
				t.Errorf("GetAggs of %d bytes, %d = %v, %d; want nothing, ErrArg", len(b), k, l, code)
			}
		}
	}
}

// 6.2: no beginning of windows' bytes is a block, and nothing may stand behind it.
func TestGetAggsCutOrLonger(t *testing.T) {
	for k := 1; k < api.Tiers; k++ {
		checkBytesAggs(t, nil, k)
		for _, l := range someAggs(k) {
			l = l[:min(len(l), 9)]
			b := bytesOfAggs(l, k)
			for n := range b {
				checkBytesAggs(t, b[:n], k)
			}
			for _, c := range []byte{0, 1, 0x7F, 0x80, 0xFF} {
				checkBytesAggs(t, append(slices.Clone(b), c), k)
			}
			checkBytesAggs(t, append(slices.Clone(b), b...), k)
			if got, code := GetAggs(append(b, 1, 2, 3)[:len(b)], k); code != api.OK || !slices.Equal(got, l) {
				t.Errorf("GetAggs(% X, %d) = %v, %d", b, k, got, code)
			}
		}
	}
}

// 6.2: numbers that are well by themselves, but of which no windows are made.
func TestGetAggsWrong(t *testing.T) {
	for k := 1; k < api.Tiers; k++ {
		last := uint64(api.MaxTime / widths[k])
		for _, l := range [][]uint64{
			// Counts that may not be.
			{1, 0, api.MaxTime, 0, 0, 0, 0, 0}, {1, 0, math.MaxUint64, 0, 0, 0, 0, 0}, {1, 0, math.MaxUint64, 0}, {1, 0, math.MaxInt64, 0, 0, 0, 0, 0}, {1, 0, 1 << 63, 0, 0, 0, 0, 0},
			// A Max beyond 64 bits, and First and Last above Max, or beyond 64 bits.
			{1, 0, 1, 2, math.MaxUint64, 0, 0, 0}, {1, 0, 1, zig(math.MaxInt64), 1, 0, 0, 0}, {1, 0, 1, zig(-1), 1<<63 + 1, 0, 0, 0}, {1, 0, 1, 0, 1 << 63, 0, 0, 0},
			{1, 0, 1, 0, 5, 0, 6, 0}, {1, 0, 1, 0, 5, 0, 0, 6}, {1, 0, 1, 0, 5, 0, math.MaxUint64, 0}, {1, 0, 1, 0, 5, 0, 0, math.MaxUint64}, {1, 0, 1, 0, 0, 0, 1, 1},
			{1, 0, 1, zig(math.MinInt64), math.MaxUint64 - 1, 0, math.MaxUint64, 0}, {1, 0, 1, zig(math.MaxInt64), 0, 0, 1, 0},
			// Places beyond the last, at first and behind another.
			{1, last + 1, 0, 0}, {1, 1 << 62, 0, 0}, {1, 1 << 63, 0, 0}, {1, math.MaxUint64, 0, 0}, {2, 0, 0, 0, last, 0, 0}, {2, last, 0, 0, 0, 0, 0},
			// Places beyond the last that times Width wrap round to such as may be.
			{1, 1 << 59, 0, 0}, {1, 1<<59 + 1, 0, 0}, {1, 1<<62 + 1, 0, 0}, {1, 1<<60 + last, 0, 0}, {2, 0, 0, 0, 1 << 62, 0, 0}, {2, 3, 0, 0, 1 << 59, 0, 0}, {2, 0, 0, 0, 1 << 63, 0, 0},
			// Places that wrap round to the one ahead, and to those below it.
			{2, 0, 0, 0, math.MaxUint64, 0, 0}, {2, 9, 0, 0, math.MaxUint64, 0, 0}, {2, 9, 0, 0, math.MaxUint64 - 1, 0, 0}, {2, 9, 0, 0, math.MaxUint64 - 9, 0, 0}, {2, 9, 0, 0, math.MaxUint64 - 10, 0, 0},
			// A Count of 1 with the parts of more, and more with the parts of 1.
			{1, 0, 0, 0, 0, 0, 0, 0}, {1, 0, 1, 0}, {2, 0, 1, 0, 0, 0, 0},
			// Too many.
			{65}, {65, 0, 0, 0}, {math.MaxUint64}, {1 << 32}, {1<<32 + 1, 0, 0, 0}, {1<<63 + 1, 0, 0, 0}, {1 << 31},
		} {
			checkBytesAggs(t, numbers(l...), k)
		}
		checkBytesAggs(t, make([]byte, 1<<20), k)
		checkBytesAggs(t, bytes.Repeat([]byte{1}, 1<<20), k)
		checkBytesAggs(t, bytes.Repeat([]byte{0x80}, 1<<20), k)
	}
}

// 6.2: a number with a byte more than it needs, in each place.
func TestGetAggsLongNumbers(t *testing.T) {
	l := []uint64{2, 3, 1, 4, 9, 6, 5, 7, 8, 0, 2}
	for k := 1; k < api.Tiers; k++ {
		for i := range l {
			checkBytesAggs(t, slices.Concat(numbers(l[:i]...), []byte{byte(l[i]) | 0x80, 0}, numbers(l[i+1:]...)), k)
		}
		if !checkOnlyAggs(t, numbers(l...), k) {
			t.Error("the same without it is refused")
		}
	}
}

// 6.2: all bytes of a small alphabet: those that are got are made, and as many are got as there are lists that make them.
func TestGetAggsSmall(t *testing.T) {
	// A number has 4 ways in one byte, 2*3 in two, 2*2*3 in three, and so on; a Count of 1 has one way.
	oneWindow := []int{0, 0, 0, 0, 4 * 4, 2 * 4 * 6, 2*4*12 + 6*6, 2*4*24 + 2*6*12}
	twoWindows := []int{0, 0, 0, 0, 0, 0, 0, 4 * 4 * 4 * 4}
	for k := 1; k < api.Tiers; k++ {
		for n := range oneWindow {
			got := 0
			eachOf([]byte{0, 1, 2, 3, 0x80, 0xFF}, n, func(b []byte) {
				if checkOnlyAggs(t, b, k) {
					got++
				}
			})
			want := oneWindow[n] + twoWindows[n]
			if n == 1 {
				want++ // 00
			}
			if got != want {
				t.Errorf("tier %d: %d blocks of %d bytes, want %d", k, got, n, want)
			}
		}
		// A Count of 2: Max 0 to 3 above Min, and First and Last within that.
		got := 0
		eachOf([]byte{0, 1, 2, 3}, 6, func(b []byte) {
			if checkOnlyAggs(t, slices.Concat([]byte{1}, b[:1], []byte{1}, b[1:]), k) {
				got++
			}
		})
		if want := 4 * 4 * 4 * (1 + 2*2 + 3*3 + 4*4); got != want {
			t.Errorf("tier %d: %d blocks of a Count of 2, want %d", k, got, want)
		}
	}
}

// 6.2: each byte of a block, changed to each other: no block, or that of other windows.
func TestGetAggsChanged(t *testing.T) {
	for k := 1; k < api.Tiers; k++ {
		for i, l := range someAggs(k) {
			if i%8 != k {
				continue
			}
			b := bytesOfAggs(l[:min(len(l), 3)], k)
			for place := range b {
				for c := range 256 {
					changed := slices.Clone(b)
					changed[place] = byte(c)
					checkOnlyAggs(t, changed, k)
				}
			}
		}
	}
}

// 6.2: one and the same bytes are windows of each tier, at other times; the places that are too far for one are not for a finer.
func TestGetAggsByTier(t *testing.T) {
	b := numbers(2, 3, 0, 2, 1, 0, 4)
	for k := 1; k < api.Tiers; k++ {
		want := []api.Agg{one(3*widths[k], 1), one(5*widths[k], 2)}
		if l, code := GetAggs(b, k); code != api.OK || !slices.Equal(l, want) {
			t.Errorf("GetAggs(% X, %d) = %v, %d; want %v", b, k, l, code, want)
		}
	}
	far := numbers(1, api.MaxTime/60, 0, 0)
	if !checkOnlyAggs(t, far, 1) || !checkOnlyAggs(t, far, 2) || checkOnlyAggs(t, far, 3) {
		t.Error("the last place of tier 2 is one of tier 1 and 2, and none of 3")
	}
}

// 6.3: steady times cost a byte each, whatever the step and the values; samples of one value two bytes each.
func TestSteadyCostsAByte(t *testing.T) {
	for _, step := range []int64{1, 10, 63, 64, 1000, 1 << 20, api.MaxTime / 64} {
		for _, first := range []int64{0, 300, 1 << 30} {
			var ahead int
			for n := 2; n <= api.MaxSamples; n++ {
				b, code := Put(every(first, step, math.MinInt64, n))
				if code != api.OK || n > 2 && len(b) != ahead+2 {
					t.Fatalf("%d samples, each %d apart: %d bytes, %d; %d of one fewer", n, step, len(b), code, ahead)
				}
				ahead = len(b)
			}
		}
	}
	if b, _ := Put(every(100, 10, 7, api.MaxSamples)); len(b) != 1+2*api.MaxSamples {
		t.Errorf("%d samples, each 10 apart, of one value: %d bytes", api.MaxSamples, len(b))
	}
	// The values' own bytes come on top: each differs from the one ahead by 100 or more, which are two bytes each.
	l := every(5, 1000000, 0, api.MaxSamples)
	for i := range l {
		l[i].V = int64(i*i) * 50
	}
	l[1].V = 100
	head, _ := Put(l[:3])
	if b, _ := Put(l); len(b) != len(head)+(api.MaxSamples-3)*(1+2) {
		t.Errorf("steady times, with values of two bytes: %d bytes behind %d", len(b), len(head))
	}
}

// 6.3: windows side by side cost a byte for their time, too.
func TestSteadyWindows(t *testing.T) {
	for k := 1; k < api.Tiers; k++ {
		for _, first := range []int64{0, 1000, 1 << 28} {
			var l []api.Agg
			for i := range int64(api.MaxAggs) {
				l = append(l, one((first+i)*widths[k], 7))
			}
			head, _ := PutAggs(l[:1], k)
			if b, code := PutAggs(l, k); code != api.OK || len(b) != len(head)+3*(api.MaxAggs-1) {
				t.Errorf("windows of tier %d side by side: %d bytes behind %d, %d", k, len(b), len(head), code)
			}
		}
	}
}

// No call changes what it is given, or answers memory that it was given or gave before; each says the same again.
func TestOwnMemory(t *testing.T) {
	for _, l := range some() {
		kept := slices.Clone(l)
		b, _ := Put(l)
		keptBytes := slices.Clone(b)
		got, _ := Get(b)
		for i := range got {
			got[i] = api.Sample{}
		}
		again, _ := Get(b)
		if !slices.Equal(l, kept) || !bytes.Equal(b, keptBytes) || !slices.Equal(again, kept) {
			t.Fatalf("%v: changed, or said otherwise", kept)
		}
		clear(b)
		if b, _ = Put(l); !bytes.Equal(b, keptBytes) || !slices.Equal(again, kept) {
			t.Fatalf("%v: said otherwise behind a write into an older answer", kept)
		}
	}
	for k := 1; k < api.Tiers; k++ {
		for _, l := range someAggs(k) {
			kept := slices.Clone(l)
			b, _ := PutAggs(l, k)
			keptBytes := slices.Clone(b)
			got, _ := GetAggs(b, k)
			clear(got)
			again, _ := GetAggs(b, k)
			if !slices.Equal(l, kept) || !bytes.Equal(b, keptBytes) || !slices.Equal(again, kept) {
				t.Fatalf("%v: changed, or said otherwise", kept)
			}
			clear(b)
			if b, _ = PutAggs(l, k); !bytes.Equal(b, keptBytes) || !slices.Equal(again, kept) {
				t.Fatalf("%v: said otherwise behind a write into an older answer", kept)
			}
		}
	}
}
