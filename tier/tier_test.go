package tier

import (
	"math"
	"math/big"
	"slices"
	"testing"

	"twinkeep/api"
	"twinkeep/fold"
)

// noTiers: numbers of no tier.
func noTiers() []int {
	return []int{math.MinInt, math.MinInt + 1, -5, -1, 4, 5, 60, math.MaxInt - 1, math.MaxInt}
}

// noTimes: times that may not be.
func noTimes() []int64 {
	return []int64{math.MinInt64, -api.MaxTime, -1440, -5, -1, api.MaxTime + 1, api.MaxTime + 5, math.MaxInt64}
}

// at: samples at these times, of values that tell them from each other.
func at(times ...int64) []api.Sample {
	var l []api.Sample
	for i, t := range times {
		l = append(l, api.Sample{T: t, V: (int64(i)*37+11)%101 - 50})
	}
	return l
}

// every: n samples, each step above the one ahead.
func every(first, step, n int64) []api.Sample {
	var times []int64
	for i := range n {
		times = append(times, first+i*step)
	}
	return at(times...)
}

// some: rising lists of samples: none, dense, wide apart, about the edges of windows, up to the last time.
func some() [][]api.Sample {
	return [][]api.Sample{
		nil, at(0), at(api.MaxTime), at(0, api.MaxTime), at(4, 5), at(5, 9, 10), at(59, 60, 119, 120), at(1439, 1440, 2879, 2880),
		at(3, 4, 5, 7, 58, 59, 60, 61, 64, 65, 1438, 1439, 1440, 1441, 3000, 100000, 100001),
		every(0, 1, 3000), every(7, 3, 1000), every(2, 5, 900), every(59, 60, 100), every(1, 61, 300), every(1439, 1440, 9),
		every(api.MaxTime-2000, 1, 2001), every(api.MaxTime-7*400, 7, 401),
	}
}

// windows: what l comes to a window, each window gone for by itself, over sums of any size.
func windows(l []api.Sample, width int64) []api.Agg {
	values := map[int64][]int64{}
	for _, s := range l {
		values[s.T/width] = append(values[s.T/width], s.V)
	}
	var out []api.Agg
	for i, v := range values {
		sum := new(big.Int)
		for _, x := range v {
			sum.Add(sum, big.NewInt(x))
		}
		out = append(out, api.Agg{
			From: i * width, Count: int64(len(v)), Sum: sum.Int64(),
			Min: slices.Min(v), Max: slices.Max(v), First: v[0], Last: v[len(v)-1],
		})
	}
	slices.SortFunc(out, func(a, b api.Agg) int { return int((a.From - b.From) / width) })
	return out
}

// one: a window in which a single value was seen.
func one(from, v int64) api.Agg { return fold.One(api.Sample{V: v}, from) }

// 4.1: the widths of the tiers, and of none.
func TestWidth(t *testing.T) {
	for k, want := range []int64{1, 5, 60, 1440} {
		if w := Width(k); w != want {
			t.Errorf("Width(%d) = %d, want %d", k, w, want)
		}
	}
	for _, k := range noTiers() {
		if w := Width(k); w != 0 {
			t.Errorf("Width(%d) = %d, want 0", k, w)
		}
	}
}

// 4.1: floors worked out by hand, about the edges of windows and at the last time.
func TestFloorWritten(t *testing.T) {
	for _, c := range []struct {
		t    int64
		want [api.Tiers]int64
	}{
		{0, [api.Tiers]int64{0, 0, 0, 0}},
		{1, [api.Tiers]int64{1, 0, 0, 0}},
		{4, [api.Tiers]int64{4, 0, 0, 0}},
		{5, [api.Tiers]int64{5, 5, 0, 0}},
		{7, [api.Tiers]int64{7, 5, 0, 0}},
		{59, [api.Tiers]int64{59, 55, 0, 0}},
		{60, [api.Tiers]int64{60, 60, 60, 0}},
		{1439, [api.Tiers]int64{1439, 1435, 1380, 0}},
		{1440, [api.Tiers]int64{1440, 1440, 1440, 1440}},
		{3001, [api.Tiers]int64{3001, 3000, 3000, 2880}},
		// 1<<40 = 1099511627776: its rests are 1 by 5, 16 by 60, 736 by 1440.
		{api.MaxTime, [api.Tiers]int64{1099511627776, 1099511627775, 1099511627760, 1099511627040}},
	} {
		for k, want := range c.want {
			if f := Floor(c.t, k); f != want {
				t.Errorf("Floor(%d, %d) = %d, want %d", c.t, k, f, want)
			}
		}
	}
}

// 4.1: a floor is where a window begins, and t lies in that window.
func TestFloorIsOfItsWindow(t *testing.T) {
	for k, width := range []int64{1, 5, 60, 1440} {
		for _, first := range []int64{0, 10000, api.MaxTime - 3000} {
			for time := first; time <= first+3000; time++ {
				f := Floor(time, k)
				if f%width != 0 || f > time || time >= f+width {
					t.Fatalf("Floor(%d, %d) = %d", time, k, f)
				}
				if again := Floor(f, k); again != f {
					t.Fatalf("Floor(%d, %d) = %d: not its own", f, k, again)
				}
			}
		}
	}
}

// 4.1: times that may not be, and no tier.
func TestFloorWrong(t *testing.T) {
	for k := range api.Tiers {
		for _, time := range noTimes() {
			if f := Floor(time, k); f != -1 {
				t.Errorf("Floor(%d, %d) = %d, want -1", time, k, f)
			}
		}
	}
	for _, k := range noTiers() {
		for _, time := range append(noTimes(), 0, 5, 1440, api.MaxTime) {
			if f := Floor(time, k); f != -1 {
				t.Errorf("Floor(%d, %d) = %d, want -1", time, k, f)
			}
		}
	}
}

// wrongSamples: lists that do not rise, or go beyond the times that may be, in one place each.
func wrongSamples() [][]api.Sample {
	l := [][]api.Sample{
		at(1, 1), at(0, 0), at(2, 1), at(api.MaxTime, api.MaxTime), at(api.MaxTime, 0), at(1, 2, 3, 3), at(1, 2, 3, 2), at(1, 3, 2, 4),
		at(3, 2, 4, 5), at(5, 5, 6, 7), at(0, 5, 4, 10), at(-2, -1), at(-1, 0, 1), at(0, 1, api.MaxTime+1), at(api.MaxTime, api.MaxTime+1),
		at(0, math.MaxInt64), at(math.MinInt64, 0), at(0, 1, -1), at(1, 9, 5, 12), {{T: 3, V: 1}, {T: 3, V: 2}},
	}
	for _, t := range noTimes() {
		l = append(l, at(t))
	}
	return l
}

// 4.1: lists that rise, whatever their values, and lists that do not.
func TestRising(t *testing.T) {
	for _, l := range append(some(), []api.Sample{}, []api.Sample{{T: 0, V: math.MaxInt64}, {T: 1, V: math.MinInt64}, {T: 9, V: -1}}) {
		if !Rising(l) {
			t.Errorf("Rising of %d from %v = false", len(l), l[:1])
		}
	}
	for _, l := range wrongSamples() {
		if Rising(l) {
			t.Errorf("Rising(%v) = true", l)
		}
	}
}

// 4.1: windows of each tier, side by side, wide apart, from the first to the last.
func TestAligned(t *testing.T) {
	for k, width := range []int64{0, 5, 60, 1440} {
		if k == 0 {
			continue
		}
		last := api.MaxTime - api.MaxTime%width
		more := api.Agg{From: width, Count: api.MaxTime, Sum: -7, Min: math.MinInt64, Max: math.MaxInt64, First: 3, Last: 4}
		for _, l := range [][]api.Agg{
			nil, {}, {one(0, 0)}, {one(last, 9)}, {one(0, 1), one(width, 1)}, {one(0, 1), more, one(7*width, 3), one(last, 2)},
		} {
			if !Aligned(l, k) {
				t.Errorf("Aligned(%v, %d) = false", l, k)
			}
		}
		for _, l := range [][]api.Agg{
			{one(1, 0)}, {one(width-1, 0)}, {one(width+1, 0)}, {one(last+1, 0)}, {one(last-1, 0)}, {one(last+width, 0)},
			{one(0, 1), one(width+1, 1)}, {one(1, 1), one(width, 1)}, {one(0, 1), one(width, 2), one(3*width-1, 1)},
			{one(0, 1), one(0, 2)}, {one(width, 1), one(width, 1)}, {one(width, 1), one(0, 2)},
			{one(0, 1), one(2*width, 1), one(width, 1)}, {one(0, 1), one(width, 1), one(width, 1), one(2*width, 1)},
			{one(-width, 1)}, {one(-1, 1)}, {one(-width, 1), one(0, 1)}, {one(math.MinInt64, 1)}, {one(math.MaxInt64, 1)},
			{{}}, {{From: width}}, {{From: width, Count: -1}}, {{From: width, Count: api.MaxTime + 1}}, {one(0, 1), {From: width}},
			{{From: width, Count: 1, Sum: 1}}, {{From: width, Count: 2, Min: 1}}, {{From: width, Count: 2, Last: 1}}, {{From: 0, Count: 2, Max: -1}, one(width, 1)},
		} {
			if Aligned(l, k) {
				t.Errorf("Aligned(%v, %d) = true", l, k)
			}
		}
	}
}

// 4.1: nothing is of tier 0, or of no tier; what is of a coarse tier is of the finer ones too, but not the other way round.
func TestAlignedTiers(t *testing.T) {
	for _, k := range append(noTiers(), 0) {
		for _, l := range [][]api.Agg{nil, {}, {one(0, 1)}, {one(0, 1), one(1440, 1)}} {
			if Aligned(l, k) {
				t.Errorf("Aligned(%v, %d) = true", l, k)
			}
		}
	}
	for _, c := range []struct {
		from int64
		want [api.Tiers]bool
	}{
		{0, [api.Tiers]bool{false, true, true, true}},
		{1440, [api.Tiers]bool{false, true, true, true}},
		{60, [api.Tiers]bool{false, true, true, false}},
		{65, [api.Tiers]bool{false, true, false, false}},
		{66, [api.Tiers]bool{false, false, false, false}},
	} {
		for k, want := range c.want {
			if is := Aligned([]api.Agg{one(c.from, 2)}, k); is != want {
				t.Errorf("Aligned(from %d, %d) = %v, want %v", c.from, k, is, want)
			}
		}
	}
}

// 4.2: windows worked out by hand: those that have no sample are left out.
func TestRawWritten(t *testing.T) {
	l := []api.Sample{{T: 0, V: 1}, {T: 4, V: 5}, {T: 5, V: -3}, {T: 59, V: 8}, {T: 60, V: 2}, {T: 61, V: 6}, {T: 1440, V: 4}}
	for _, c := range []struct {
		k    int
		want []api.Agg
	}{
		{1, []api.Agg{
			{From: 0, Count: 2, Sum: 6, Min: 1, Max: 5, First: 1, Last: 5}, one(5, -3), one(55, 8),
			{From: 60, Count: 2, Sum: 8, Min: 2, Max: 6, First: 2, Last: 6}, one(1440, 4),
		}},
		{2, []api.Agg{
			{From: 0, Count: 4, Sum: 11, Min: -3, Max: 8, First: 1, Last: 8},
			{From: 60, Count: 2, Sum: 8, Min: 2, Max: 6, First: 2, Last: 6}, one(1440, 4),
		}},
		{3, []api.Agg{{From: 0, Count: 6, Sum: 19, Min: -3, Max: 8, First: 1, Last: 6}, one(1440, 4)}},
	} {
		if out, code := Raw(l, c.k); code != api.OK || !slices.Equal(out, c.want) {
			t.Errorf("Raw(%v, %d) = %v, %d, want %v", l, c.k, out, code, c.want)
		}
	}
}

// 4.2: Raw, held against each window gone for by itself; what it tells is Aligned.
func TestRaw(t *testing.T) {
	for k, width := range []int64{0, 5, 60, 1440} {
		for i, l := range some() {
			if k == 0 {
				continue
			}
			out, code := Raw(l, k)
			if code != api.OK || !slices.Equal(out, windows(l, width)) || !Aligned(out, k) {
				t.Errorf("Raw of list %d, %d = %v, %d, want %v", i, k, out, code, windows(l, width))
			}
		}
	}
}

// 4.2: wrong tiers and wrong samples; both are told ahead of a sum beyond 64 bits.
func TestRawWrong(t *testing.T) {
	over := []api.Sample{{T: 1, V: math.MaxInt64}, {T: 2, V: 1}}
	for _, k := range append(noTiers(), 0) {
		for _, l := range append(some(), over) {
			if out, code := Raw(l, k); len(out) != 0 || code != api.ErrArg {
				t.Errorf("Raw(%v, %d) = %v, %d, want nothing, ErrArg", l, k, out, code)
			}
		}
	}
	wrong := append(wrongSamples(), append(slices.Clone(over), api.Sample{T: 2}), append(slices.Clone(over), api.Sample{T: api.MaxTime + 1}))
	for k := 1; k < api.Tiers; k++ {
		for _, l := range wrong {
			if out, code := Raw(l, k); len(out) != 0 || code != api.ErrArg {
				t.Errorf("Raw(%v, %d) = %v, %d, want nothing, ErrArg", l, k, out, code)
			}
		}
	}
}

// 4.2: a sum beyond 64 bits in one window, whichever it is; windows do not share their sums.
func TestRawOver(t *testing.T) {
	for k, width := range []int64{0, 5, 60, 1440} {
		if k == 0 {
			continue
		}
		for _, l := range [][]api.Sample{
			{{T: 0, V: math.MaxInt64}, {T: width - 1, V: 1}},
			{{T: 0, V: math.MinInt64}, {T: 1, V: -1}, {T: width, V: 4}},
			{{T: 0, V: 1}, {T: width, V: 1 << 62}, {T: width + 1, V: 1 << 62}, {T: 2 * width, V: 4}},
			{{T: 0, V: 1}, {T: 5 * width, V: math.MaxInt64}, {T: 5*width + 1, V: 1}, {T: 5*width + 2, V: -1}},
		} {
			if out, code := Raw(l, k); len(out) != 0 || code != api.ErrOver {
				t.Errorf("Raw(%v, %d) = %v, %d, want nothing, ErrOver", l, k, out, code)
			}
		}
		l := []api.Sample{{T: width - 1, V: math.MaxInt64}, {T: width, V: math.MaxInt64}}
		if out, code := Raw(l, k); code != api.OK || !slices.Equal(out, []api.Agg{one(0, math.MaxInt64), one(width, math.MaxInt64)}) {
			t.Errorf("Raw(%v, %d) = %v, %d", l, k, out, code)
		}
	}
}

// 4.2: windows joined, worked out by hand: From is the floor, though the window's first part is not there.
func TestDownWritten(t *testing.T) {
	for _, c := range []struct {
		k       int
		l, want []api.Agg
	}{
		{2, nil, nil},
		{3, []api.Agg{}, nil},
		{2, []api.Agg{one(55, 7)}, []api.Agg{one(0, 7)}},
		{3, []api.Agg{one(2820, 7)}, []api.Agg{one(1440, 7)}},
		{2, []api.Agg{
			{From: 5, Count: 2, Sum: 9, Min: 1, Max: 8, First: 8, Last: 1}, {From: 50, Count: 3, Sum: -4, Min: -9, Max: 4, First: 0, Last: 2}, one(55, 3),
			one(65, 6), {From: 180, Count: 4, Sum: 77, Min: 1, Max: 50, First: 3, Last: 2}, one(235, 60),
		}, []api.Agg{
			{From: 0, Count: 6, Sum: 8, Min: -9, Max: 8, First: 8, Last: 3},
			one(60, 6), {From: 180, Count: 5, Sum: 137, Min: 1, Max: 60, First: 3, Last: 60},
		}},
		{3, []api.Agg{
			one(60, 4), {From: 1380, Count: 2, Sum: 5, Min: 2, Max: 3, First: 3, Last: 2}, one(1440, 1), one(4260, -1), one(4320, -2),
		}, []api.Agg{
			{From: 0, Count: 3, Sum: 9, Min: 2, Max: 4, First: 4, Last: 2}, one(1440, 1), one(2880, -1), one(4320, -2),
		}},
		// The last windows that there are.
		{2, []api.Agg{one(1099511627755, 1), one(1099511627760, 2), one(1099511627775, 3)}, []api.Agg{
			one(1099511627700, 1), {From: 1099511627760, Count: 2, Sum: 5, Min: 2, Max: 3, First: 2, Last: 3},
		}},
		{3, []api.Agg{one(1099511626980, 1), one(1099511627040, 2), one(1099511627760, 3)}, []api.Agg{
			one(1099511625600, 1), {From: 1099511627040, Count: 2, Sum: 5, Min: 2, Max: 3, First: 2, Last: 3},
		}},
	} {
		if out, code := Down(c.l, c.k); code != api.OK || !slices.Equal(out, c.want) {
			t.Errorf("Down(%v, %d) = %v, %d, want %v", c.l, c.k, out, code, c.want)
		}
	}
}

// 4.2: wrong tiers, and windows that are not Aligned by the tier below; both are told ahead of a sum beyond 64 bits.
func TestDownWrong(t *testing.T) {
	for _, k := range append(noTiers(), 0, 1) {
		for _, l := range [][]api.Agg{nil, {}, {one(0, 1)}, {one(0, 1), one(1440, 1)}, {one(0, math.MaxInt64), one(60, 1)}} {
			if out, code := Down(l, k); len(out) != 0 || code != api.ErrArg {
				t.Errorf("Down(%v, %d) = %v, %d, want nothing, ErrArg", l, k, out, code)
			}
		}
	}
	for k, width := range []int64{0, 0, 5, 60} {
		if width == 0 {
			continue
		}
		for _, l := range [][]api.Agg{
			{one(1, 1)}, {one(width-1, 1)}, {one(0, 1), one(width+1, 1)}, {one(0, 1), one(0, 1)}, {one(width, 1), one(0, 1)},
			{one(0, 1), one(2*width, 1), one(width, 1)}, {one(-width, 1)}, {one(-1, 1)}, {{}}, {{From: width}}, {one(0, 1), {From: width, Count: 1, Sum: 2}},
			{one(0, 1), {From: width, Count: 2, Min: 1}}, {one(math.MaxInt64, 1)}, {one(api.MaxTime+width-api.MaxTime%width, 1)},
			{one(0, math.MaxInt64), one(width, 1), one(width, 1)}, {one(0, math.MaxInt64), one(width, 1), {From: 2 * width}},
		} {
			if out, code := Down(l, k); len(out) != 0 || code != api.ErrArg {
				t.Errorf("Down(%v, %d) = %v, %d, want nothing, ErrArg", l, k, out, code)
			}
		}
	}
	// Of tier 1, but not of tier 2.
	if out, code := Down([]api.Agg{one(60, 1), one(65, 1)}, 3); len(out) != 0 || code != api.ErrArg {
		t.Errorf("Down of tier 1 to 3 = %v, %d, want nothing, ErrArg", out, code)
	}
	// Of tier 3, and so of tier 2 and 1: told by their places alone.
	if out, code := Down([]api.Agg{one(1440, 1), one(2880, 1)}, 2); code != api.OK || !slices.Equal(out, []api.Agg{one(1440, 1), one(2880, 1)}) {
		t.Errorf("Down of tier 3 to 2 = %v, %d", out, code)
	}
}

// 4.2: a sum beyond 64 bits in one window, whichever it is, once is for good; windows do not share their sums.
func TestDownOver(t *testing.T) {
	for k, width := range []int64{0, 0, 5, 60} {
		if width == 0 {
			continue
		}
		wide := Width(k)
		for _, l := range [][]api.Agg{
			{one(0, math.MaxInt64), one(width, 1)},
			{one(0, math.MinInt64), one(width, -1), one(wide, 1)},
			{one(0, 1), one(wide, 1<<62), one(wide+width, 1<<62), one(2*wide, 1)},
			{one(0, 1), one(3*wide, math.MaxInt64), one(3*wide+width, 1), one(3*wide+2*width, -1)},
		} {
			if out, code := Down(l, k); len(out) != 0 || code != api.ErrOver {
				t.Errorf("Down(%v, %d) = %v, %d, want nothing, ErrOver", l, k, out, code)
			}
		}
		l := []api.Agg{one(wide-width, math.MaxInt64), one(wide, math.MaxInt64)}
		if out, code := Down(l, k); code != api.OK || !slices.Equal(out, []api.Agg{one(0, math.MaxInt64), one(wide, math.MaxInt64)}) {
			t.Errorf("Down(%v, %d) = %v, %d", l, k, out, code)
		}
	}
}

// 4.2: counts together up to MaxTime, as Join has it (3.2), and no further.
func TestDownCounts(t *testing.T) {
	l := []api.Agg{{From: 0, Count: api.MaxTime - 1}, one(5, 0), {From: 60, Count: api.MaxTime}}
	if out, code := Down(l, 2); code != api.OK || !slices.Equal(out, []api.Agg{{From: 0, Count: api.MaxTime}, {From: 60, Count: api.MaxTime}}) {
		t.Errorf("Down(%v, 2) = %v, %d", l, out, code)
	}
	l[0].Count++
	if out, code := Down(l, 2); len(out) != 0 || code != api.ErrArg {
		t.Errorf("Down(%v, 2) = %v, %d, want nothing, ErrArg", l, out, code)
	}
}

// 4.3: from fine to coarse by steps, or at once: the same.
func TestStepsAreAtOnce(t *testing.T) {
	for i, l := range some() {
		fine, code := Raw(l, 1)
		for k := 2; k < api.Tiers; k++ {
			if code != api.OK {
				t.Fatalf("list %d, tier %d: %d", i, k-1, code)
			}
			atOnce, well := Raw(l, k)
			var steps []api.Agg
			steps, code = Down(fine, k)
			if code != api.OK || well != api.OK || !slices.Equal(steps, atOnce) {
				t.Errorf("list %d, tier %d: %v, %d by steps, %v, %d at once", i, k, steps, code, atOnce, well)
			}
			fine = steps
		}
	}
}

// 4.3: what comes first is rolled up by itself, where a coarse window ends: the two behind each other are the whole.
func TestPiecesAreTheWhole(t *testing.T) {
	for i, l := range some() {
		for k := 1; k < api.Tiers; k++ {
			whole, _ := Raw(l, k)
			for _, cut := range []int64{0, 1440, 2880, 14400, api.MaxTime - 736} {
				n := 0
				for n < len(l) && l[n].T < cut {
					n++
				}
				head, _ := Raw(l[:n], k)
				tail, _ := Raw(l[n:], k)
				if got := slices.Concat(head, tail); !slices.Equal(got, whole) {
					t.Errorf("list %d cut at %d, tier %d = %v, want %v", i, cut, k, got, whole)
				}
			}
		}
	}
}

// No call changes what it is given, or answers memory that it was given or gave before; each says the same again.
func TestOwnMemory(t *testing.T) {
	for i, l := range some() {
		kept := slices.Clone(l)
		fine, _ := Raw(l, 1)
		again, _ := Raw(l, 1)
		if !slices.Equal(l, kept) || !slices.Equal(fine, again) {
			t.Fatalf("list %d: Raw changed it, or says otherwise", i)
		}
		for n := range again {
			again[n] = api.Agg{}
		}
		keptFine := slices.Clone(fine)
		wide, _ := Down(fine, 2)
		keptWide := slices.Clone(wide)
		for n := range wide {
			wide[n] = api.Agg{}
		}
		more, _ := Down(fine, 2)
		Rising(l)
		Aligned(fine, 1)
		if !slices.Equal(fine, keptFine) || !slices.Equal(more, keptWide) || !slices.Equal(l, kept) {
			t.Errorf("list %d: Down changed it, or says otherwise", i)
		}
	}
}
