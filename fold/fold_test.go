package fold

import (
	"math"
	"math/big"
	"slices"
	"testing"

	"twinkeep/api"
)

// edges: numbers about 0, about MaxTime, and about the ends of 64 bits.
func edges() []int64 {
	return []int64{
		math.MinInt64, math.MinInt64 + 1, math.MinInt64/2 - 1, math.MinInt64 / 2, -api.MaxTime - 1, -api.MaxTime, -2, -1, 0, 1, 2, 7,
		api.MaxTime - 1, api.MaxTime, api.MaxTime + 1, math.MaxInt64 / 2, math.MaxInt64/2 + 1, math.MaxInt64 - 1, math.MaxInt64,
	}
}

// of: samples of these values, one after the other.
func of(values ...int64) []api.Sample {
	var l []api.Sample
	for i, v := range values {
		l = append(l, api.Sample{T: int64(i) * 10, V: v})
	}
	return l
}

// some: lists of samples: short, long, of one value, rising, falling, mixed.
func some() [][]api.Sample {
	l := [][]api.Sample{
		of(0), of(-7), of(math.MinInt64), of(math.MaxInt64), of(1, 5, 3), of(5, 1, 3), of(3, 1, 5), of(2, 2, 2),
		of(math.MaxInt64, math.MinInt64), of(math.MinInt64, math.MaxInt64), of(-1, -2, -3, -4), of(math.MaxInt64-1, 1, -5),
	}
	var mixed []int64
	for i := range int64(70) {
		mixed = append(mixed, (i*i*37+11)%101-50)
	}
	return append(l, of(mixed...))
}

// whole: what l comes to, each part gone for by itself, over sums of any size.
func whole(l []api.Sample, from int64) (api.Agg, bool) {
	var values []int64
	sum := new(big.Int)
	for _, s := range l {
		values = append(values, s.V)
		sum.Add(sum, big.NewInt(s.V))
	}
	return api.Agg{
		From: from, Count: int64(len(l)), Sum: sum.Int64(),
		Min: slices.Min(values), Max: slices.Max(values), First: values[0], Last: values[len(values)-1],
	}, sum.IsInt64()
}

// 3.1: sums at the ends of 64 bits, worked out by hand.
func TestAddWritten(t *testing.T) {
	for _, c := range []struct {
		a, b, want int64
		is         bool
	}{
		{0, 0, 0, true},
		{1, 2, 3, true},
		{-1, 1, 0, true},
		{-5, -6, -11, true},
		{math.MaxInt64, 0, math.MaxInt64, true},
		{math.MaxInt64 - 1, 1, math.MaxInt64, true},
		{math.MaxInt64, 1, 0, false},
		{1, math.MaxInt64, 0, false},
		{math.MaxInt64, math.MaxInt64, 0, false},
		{math.MinInt64, 0, math.MinInt64, true},
		{math.MinInt64 + 1, -1, math.MinInt64, true},
		{math.MinInt64, -1, 0, false},
		{-1, math.MinInt64, 0, false},
		// Wrapped round, these two come to 0: a sum that looks well.
		{math.MinInt64, math.MinInt64, 0, false},
		{math.MinInt64, math.MaxInt64, -1, true},
	} {
		if s, is := Add(c.a, c.b); s != c.want || is != c.is {
			t.Errorf("Add(%d, %d) = %d, %v, want %d, %v", c.a, c.b, s, is, c.want, c.is)
		}
	}
}

// 3.1: Add, held against sums of any size.
func TestAddWhole(t *testing.T) {
	for _, a := range edges() {
		for _, b := range edges() {
			sum := new(big.Int).Add(big.NewInt(a), big.NewInt(b))
			want := int64(0)
			if sum.IsInt64() {
				want = sum.Int64()
			}
			if s, is := Add(a, b); s != want || is != sum.IsInt64() {
				t.Errorf("Add(%d, %d) = %d, %v, want %d, %v", a, b, s, is, want, sum.IsInt64())
			}
		}
	}
}

// 3.1: One of every value, wherever the window begins (a place that may not be, too), whatever the sample's time.
func TestOne(t *testing.T) {
	for _, v := range edges() {
		for _, from := range edges() {
			want := api.Agg{From: from, Count: 1, Sum: v, Min: v, Max: v, First: v, Last: v}
			for _, time := range []int64{math.MinInt64, 0, 5, math.MaxInt64} {
				if a := One(api.Sample{T: time, V: v}, from); a != want {
					t.Errorf("One({%d %d}, %d) = %v, want %v", time, v, from, a, want)
				}
			}
			if is, want := May(want), from >= 0 && from <= api.MaxTime; is != want {
				t.Errorf("May(One of %d from %d) = %v, want %v", v, from, is, want)
			}
		}
	}
}

// 3.1: what may be, up to the edges.
func TestMayBe(t *testing.T) {
	for _, a := range []api.Agg{
		{From: 0, Count: 1},
		{From: api.MaxTime, Count: 1, Sum: -3, Min: -3, Max: -3, First: -3, Last: -3},
		{From: 5, Count: 2, Sum: 3, Min: 1, Max: 2, First: 1, Last: 2},
		{From: 5, Count: 2, Sum: 3, Min: 1, Max: 2, First: 2, Last: 1},
		{From: 5, Count: 3, Sum: 9, Min: 1, Max: 5, First: 2, Last: 2},
		{From: 5, Count: 2, Sum: 4, Min: 2, Max: 2, First: 2, Last: 2},
		{From: 5, Count: api.MaxTime, Sum: 4, Min: -2, Max: 2, First: 2, Last: -2},
		{From: 5, Count: 9, Sum: 4, Min: math.MinInt64, Max: math.MaxInt64, First: math.MaxInt64, Last: math.MinInt64},
		// The chapter asks nothing of the sum of more than one.
		{From: 5, Count: 2, Sum: 1000, Min: 1, Max: 2, First: 1, Last: 2},
	} {
		if !May(a) {
			t.Errorf("May(%v) = false", a)
		}
		if got, code := Join(a, One(api.Sample{}, 9)); a.Count < api.MaxTime && code != api.OK {
			t.Errorf("Join(%v, one) = %v, %d", a, got, code)
		}
	}
}

// wrong: what may not be, unlike good in one thing each.
func wrong() []api.Agg {
	return []api.Agg{
		{},
		{From: 5, Count: 0, Sum: 3, Min: 1, Max: 3, First: 2, Last: 2},
		{From: 5, Count: -1, Sum: 3, Min: 1, Max: 3, First: 2, Last: 2},
		{From: 5, Count: math.MinInt64, Sum: 3, Min: 1, Max: 3, First: 2, Last: 2},
		{From: 5, Count: api.MaxTime + 1, Sum: 3, Min: 1, Max: 3, First: 2, Last: 2},
		{From: 5, Count: math.MaxInt64, Sum: 3, Min: 1, Max: 3, First: 2, Last: 2},
		{From: -1, Count: 2, Sum: 3, Min: 1, Max: 3, First: 2, Last: 2},
		{From: math.MinInt64, Count: 2, Sum: 3, Min: 1, Max: 3, First: 2, Last: 2},
		{From: api.MaxTime + 1, Count: 2, Sum: 3, Min: 1, Max: 3, First: 2, Last: 2},
		{From: math.MaxInt64, Count: 2, Sum: 3, Min: 1, Max: 3, First: 2, Last: 2},
		{From: 5, Count: 2, Sum: 3, Min: 1, Max: 3, First: 0, Last: 2},
		{From: 5, Count: 2, Sum: 3, Min: 1, Max: 3, First: 4, Last: 2},
		{From: 5, Count: 2, Sum: 3, Min: 1, Max: 3, First: 2, Last: 0},
		{From: 5, Count: 2, Sum: 3, Min: 1, Max: 3, First: 2, Last: 4},
		{From: 5, Count: 2, Sum: 3, Min: 3, Max: 1, First: 2, Last: 2},
		{From: 5, Count: 2, Sum: 3, Min: 3, Max: 1, First: 3, Last: 3},
		{From: 5, Count: 2, Sum: 3, Min: 3, Max: 1, First: 1, Last: 1},
		{From: 5, Count: 1, Sum: 3, Min: 2, Max: 2, First: 2, Last: 2},
		{From: 5, Count: 1, Sum: 2, Min: 1, Max: 2, First: 2, Last: 2},
		{From: 5, Count: 1, Sum: 2, Min: 2, Max: 3, First: 2, Last: 2},
		{From: 5, Count: 1, Sum: 2, Min: 1, Max: 3, First: 2, Last: 2},
		{From: 5, Count: 1, Sum: 1, Min: 1, Max: 3, First: 1, Last: 3},
		{From: 5, Count: 1, Sum: 1, Min: 1, Max: 3, First: 3, Last: 3},
		{From: 5, Count: 1, Sum: 3, Min: 1, Max: 3, First: 1, Last: 1},
		{From: 5, Count: 1, Sum: 1, Min: 1, Max: 3, First: 1, Last: 1},
		{From: 5, Count: 1, Sum: 2, Min: 2, Max: 2, First: 1, Last: 2},
		{From: 5, Count: 1, Sum: 2, Min: 2, Max: 2, First: 2, Last: 3},
	}
}

// 3.1, 3.2: what may not be is not, and is joined with nothing, from neither side.
func TestMayNot(t *testing.T) {
	good := api.Agg{From: 5, Count: 2, Sum: 3, Min: 1, Max: 3, First: 2, Last: 2}
	if !May(good) {
		t.Fatalf("May(%v) = false", good)
	}
	for _, a := range wrong() {
		if May(a) {
			t.Errorf("May(%v) = true", a)
		}
		for _, pair := range [][2]api.Agg{{a, good}, {good, a}, {a, a}} {
			if got, code := Join(pair[0], pair[1]); got != (api.Agg{}) || code != api.ErrArg {
				t.Errorf("Join(%v, %v) = %v, %d, want nothing, ErrArg", pair[0], pair[1], got, code)
			}
		}
	}
}

// 3.2: every part of what is joined comes from where the chapter says.
func TestJoinWritten(t *testing.T) {
	a := api.Agg{From: 40, Count: 3, Sum: 9, Min: 1, Max: 5, First: 2, Last: 4}
	b := api.Agg{From: 20, Count: 4, Sum: -6, Min: -4, Max: 3, First: -1, Last: 0}
	for _, c := range []struct{ a, b, want api.Agg }{
		{a, b, api.Agg{From: 40, Count: 7, Sum: 3, Min: -4, Max: 5, First: 2, Last: 0}},
		{b, a, api.Agg{From: 20, Count: 7, Sum: 3, Min: -4, Max: 5, First: -1, Last: 4}},
		{a, a, api.Agg{From: 40, Count: 6, Sum: 18, Min: 1, Max: 5, First: 2, Last: 4}},
	} {
		if got, code := Join(c.a, c.b); got != c.want || code != api.OK {
			t.Errorf("Join(%v, %v) = %v, %d, want %v", c.a, c.b, got, code, c.want)
		}
	}
}

// 3.2: counts together up to MaxTime, and no further.
func TestJoinCounts(t *testing.T) {
	for _, c := range []struct {
		a, b int64
		code int
	}{
		{api.MaxTime - 2, 2, api.OK},
		{2, api.MaxTime - 2, api.OK},
		{api.MaxTime / 2, api.MaxTime / 2, api.OK},
		{api.MaxTime - 1, 2, api.ErrArg},
		{2, api.MaxTime - 1, api.ErrArg},
		{api.MaxTime, 2, api.ErrArg},
		{api.MaxTime, api.MaxTime, api.ErrArg},
	} {
		want := api.Agg{}
		if c.code == api.OK {
			want = api.Agg{From: 1, Count: api.MaxTime}
		}
		if got, code := Join(api.Agg{From: 1, Count: c.a}, api.Agg{From: 2, Count: c.b}); got != want || code != c.code {
			t.Errorf("Join of counts %d, %d = %v, %d, want %v, %d", c.a, c.b, got, code, want, c.code)
		}
	}
}

// 3.2: sums up to 64 bits, and no further; the wrong argument is told ahead of the sum.
func TestJoinSums(t *testing.T) {
	for _, a := range edges() {
		for _, b := range edges() {
			want, code := api.Agg{}, api.ErrOver
			if sum := new(big.Int).Add(big.NewInt(a), big.NewInt(b)); sum.IsInt64() {
				want, code = api.Agg{From: 3, Count: 2, Sum: sum.Int64(), Min: min(a, b), Max: max(a, b), First: a, Last: b}, api.OK
			}
			if got, is := Join(One(api.Sample{V: a}, 3), One(api.Sample{V: b}, 4)); got != want || is != code {
				t.Errorf("Join of %d, %d = %v, %d, want %v, %d", a, b, got, is, want, code)
			}
		}
	}
	high := api.Agg{From: 3, Count: 2, Sum: math.MaxInt64}
	for _, b := range []api.Agg{
		{From: -1, Count: 2, Sum: math.MaxInt64},
		{From: 3, Count: api.MaxTime, Sum: math.MaxInt64},
		{From: 3, Count: 1, Sum: math.MaxInt64},
	} {
		if got, code := Join(high, b); got != (api.Agg{}) || code != api.ErrArg {
			t.Errorf("Join(%v, %v) = %v, %d, want nothing, ErrArg", high, b, got, code)
		}
	}
}

// 3.2: All of samples, held against each part gone for by itself; times and the window's beginning have no say.
func TestAll(t *testing.T) {
	want := api.Agg{From: 4, Count: 3, Sum: 9, Min: 1, Max: 5, First: 1, Last: 3}
	if a, code := All(of(1, 5, 3), 4); a != want || code != api.OK {
		t.Errorf("All of 1, 5, 3 = %v, %d, want %v", a, code, want)
	}
	if a, code := All([]api.Sample{{T: -9, V: 1}, {T: math.MaxInt64, V: 5}, {T: -9, V: 3}}, 4); a != want || code != api.OK {
		t.Errorf("All of 1, 5, 3 at other times = %v, %d, want %v", a, code, want)
	}
	for _, l := range some() {
		for _, from := range []int64{0, 1, 300, api.MaxTime} {
			want, is := whole(l, from)
			if a, code := All(l, from); !is || a != want || code != api.OK {
				t.Errorf("All(%v, %d) = %v, %d, want %v", l, from, a, code, want)
			}
		}
	}
}

// 3.2: nothing, and a window that may not begin there; both are told ahead of a sum beyond 64 bits.
func TestAllWrong(t *testing.T) {
	for _, l := range [][]api.Sample{nil, {}} {
		for _, from := range edges() {
			if a, code := All(l, from); a != (api.Agg{}) || code != api.ErrArg {
				t.Errorf("All of nothing from %d = %v, %d, want nothing, ErrArg", from, a, code)
			}
		}
	}
	for _, l := range append(some(), of(math.MaxInt64, 1)) {
		for _, from := range []int64{math.MinInt64, -1, api.MaxTime + 1, math.MaxInt64} {
			if a, code := All(l, from); a != (api.Agg{}) || code != api.ErrArg {
				t.Errorf("All(%v, %d) = %v, %d, want nothing, ErrArg", l, from, a, code)
			}
		}
	}
}

// 3.2: joined from the left: a sum that was once beyond 64 bits stays so.
func TestAllOver(t *testing.T) {
	for _, l := range [][]api.Sample{
		of(math.MaxInt64, 1), of(1, math.MaxInt64), of(math.MinInt64, -1), of(math.MinInt64, math.MinInt64),
		of(math.MaxInt64, 1, -1), of(-1, math.MinInt64, 1), of(math.MinInt64, math.MinInt64, math.MaxInt64, 2),
	} {
		if a, code := All(l, 0); a != (api.Agg{}) || code != api.ErrOver {
			t.Errorf("All(%v) = %v, %d, want nothing, ErrOver", l, a, code)
		}
	}
	if a, code := All(of(math.MaxInt64, -1, 1), 0); a.Sum != math.MaxInt64 || code != api.OK {
		t.Errorf("All of a sum up to the end of 64 bits = %v, %d", a, code)
	}
}

// 3.3: cut anywhere, in two and in three, from the left or from the right: joined, it is as if folded at once.
func TestJoinedIsAtOnce(t *testing.T) {
	join := func(a, b api.Agg) api.Agg {
		j, code := Join(a, b)
		if code != api.OK {
			t.Errorf("Join(%v, %v) = %v, %d", a, b, j, code)
		}
		return j
	}
	all := func(l []api.Sample, from int64) api.Agg {
		a, code := All(l, from)
		if code != api.OK {
			t.Errorf("All(%v, %d) = %v, %d", l, from, a, code)
		}
		return a
	}
	for _, l := range some() {
		want := all(l, 7)
		for i := 1; i < len(l); i++ {
			if got := join(all(l[:i], 7), all(l[i:], 3)); got != want {
				t.Errorf("%v cut at %d = %v, want %v", l, i, got, want)
			}
			for k := i + 1; k < len(l); k++ {
				a, b, c := all(l[:i], 7), all(l[i:k], 3), all(l[k:], 900)
				if left, right := join(join(a, b), c), join(a, join(b, c)); left != want || right != want {
					t.Errorf("%v cut at %d, %d = %v, %v, want %v", l, i, k, left, right, want)
				}
			}
		}
	}
}

// All leaves the samples as they are, and says the same each time.
func TestAllLeaves(t *testing.T) {
	for _, l := range some() {
		kept := slices.Clone(l)
		a, code := All(l, 5)
		b, again := All(l, 5)
		if a != b || code != again || !slices.Equal(l, kept) {
			t.Errorf("All(%v): %v, %d, then %v, %d", kept, a, code, b, again)
		}
	}
}
