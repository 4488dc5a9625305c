package head

import (
	"math"
	"slices"
	"sort"
	"testing"

	"twinkeep/api"
	"twinkeep/policy"
)

// at: samples at these times, of values that tell them from each other.
func at(times ...int64) []api.Sample {
	var l []api.Sample
	for _, t := range times {
		l = append(l, api.Sample{T: t, V: valueAt(t)})
	}
	return l
}

// valueAt: a value that goes with a time alone.
func valueAt(t int64) int64 { return t*t%101 - 50 }

// every: n samples, each step above the one ahead.
func every(first, step int64, n int) []api.Sample {
	var times []int64
	for i := range int64(n) {
		times = append(times, first+i*step)
	}
	return at(times...)
}

func headOf(sealed int64, times ...int64) api.Head { return api.Head{Sealed: sealed, L: at(times...)} }

// some: heads that may be: empty, of one, of as many as may be, at both ends of time, sealed up to the first sample or far below.
func some() []api.Head {
	return []api.Head{
		{}, {L: []api.Sample{}}, {Sealed: 1}, {Sealed: 7}, {Sealed: api.MaxTime - 1}, {Sealed: api.MaxTime},
		headOf(0, 0), headOf(0, 1), headOf(1, 1), headOf(0, api.MaxTime-1), headOf(api.MaxTime-1, api.MaxTime-1), headOf(5, 5, 6),
		headOf(2, 2, 5), headOf(0, 0, api.MaxTime-1), headOf(0, 2, 5, 9), headOf(3, 10, 20, 30, 31, 32, 1000),
		{L: every(0, 1, api.MaxSamples-1)}, {L: every(0, 1, api.MaxSamples)}, {L: every(2, 3, api.MaxSamples)}, {Sealed: 7, L: every(7, 10, api.MaxSamples)},
		{Sealed: api.MaxTime - api.MaxSamples, L: every(api.MaxTime-api.MaxSamples, 1, api.MaxSamples)},
		{L: []api.Sample{{T: 1, V: math.MinInt64}, {T: 2, V: math.MaxInt64}, {T: 3}}},
	}
}

// wrong: heads that may not be, in one part each.
func wrong() []api.Head {
	return []api.Head{
		{Sealed: -1}, {Sealed: math.MinInt64}, {Sealed: api.MaxTime + 1}, {Sealed: math.MaxInt64}, headOf(-1, 5), headOf(math.MinInt64, 5),
		headOf(0, 2, 2), headOf(0, 3, 2), headOf(0, 2, 5, 5), headOf(0, 2, 2, 5), headOf(0, 5, 2, 9), headOf(0, 2, 9, 5),
		headOf(3, 2), headOf(3, 2, 5), headOf(3, 0, 3), headOf(1, 0), headOf(api.MaxTime, api.MaxTime-1), headOf(api.MaxTime, 0),
		headOf(0, -1), headOf(0, -1, 5), headOf(0, math.MinInt64, 5), headOf(0, api.MaxTime), headOf(0, 5, api.MaxTime), headOf(api.MaxTime, api.MaxTime),
		headOf(0, api.MaxTime+1), headOf(0, math.MaxInt64), headOf(0, 5, math.MaxInt64), headOf(api.MaxTime+1, api.MaxTime+1),
		{L: every(0, 1, api.MaxSamples+1)}, {Sealed: 9, L: every(9, 2, 1000)}, {L: make([]api.Sample, api.MaxSamples+1)},
	}
}

// wrongPolicies: policies that may not be, in one part each.
func wrongPolicies() []api.Policy {
	d := policy.Default()
	l := []api.Policy{{}, {Age: d.Age, Count: 1}, {Age: d.Age, Span: 1}, {Age: d.Age, Count: -1, Span: 30}, {Age: d.Age, Count: 65, Span: 30}}
	l = append(l, api.Policy{Age: d.Age, Count: 1, Span: -1}, api.Policy{Age: d.Age, Count: 1, Span: 201}, api.Policy{Age: d.Age, Count: 1, Span: math.MinInt64})
	return append(l, api.Policy{Age: [api.Tiers]int64{60, 600, 6000, 1}, Count: 1, Span: 1}, api.Policy{Age: [api.Tiers]int64{-1}, Count: 1, Span: 1})
}

// sealing: a policy that asks for a seal at this count, or behind this span.
func sealing(count int, span int64) api.Policy {
	p := policy.Default()
	p.Count, p.Span = count, span
	return p
}

func copied(h api.Head) api.Head { return api.Head{Sealed: h.Sealed, L: slices.Clone(h.L)} }

// equal: whether all parts are the same, without the help of Same.
func equal(a, b api.Head) bool { return a.Sealed == b.Sealed && slices.Equal(a.L, b.L) }

// roomy: h with other samples behind its own, in memory that an append would write to.
func roomy(h api.Head) (api.Head, []api.Sample) {
	all := append(slices.Clone(h.L), at(71, 72, 73)...)
	return api.Head{Sealed: h.Sealed, L: all[:len(h.L)]}, all
}

// checkPut: what Put answers, that it changes nothing of what it was given, and that its answer is the caller's own.
func checkPut(t *testing.T, h api.Head, s api.Sample, want api.Head, wantCode int) {
	t.Helper()
	given, all := roomy(h)
	was := slices.Clone(all)
	got, code := Put(given, s)
	if code != wantCode || !equal(got, want) {
		t.Errorf("Put(%v, %v) = %v, %d; want %v, %d", h, s, got, code, want, wantCode)
	}
	for i := range got.L {
		got.L[i] = api.Sample{T: -7, V: -7}
	}
	_ = append(got.L, api.Sample{T: -7, V: -7})
	if !slices.Equal(all, was) {
		t.Errorf("Put(%v, %v) shares, or has written to, what it was given", h, s)
	}
}

// checkSeal: like checkPut, and that the two lists of one answer are apart.
func checkSeal(t *testing.T, h, want api.Head, wantL []api.Sample, wantWas, wantIs int64, wantCode int) {
	t.Helper()
	given, all := roomy(h)
	before := slices.Clone(all)
	got, l, was, is, code := Seal(given)
	if code != wantCode || was != wantWas || is != wantIs || !equal(got, want) || !slices.Equal(l, wantL) {
		t.Errorf("Seal(%v) = %v, %v, %d, %d, %d; want %v, %v, %d, %d, %d", h, got, l, was, is, code, want, wantL, wantWas, wantIs, wantCode)
	}
	for i := range got.L {
		got.L[i] = api.Sample{T: -7, V: -7}
	}
	_ = append(got.L, api.Sample{T: -7, V: -7})
	if !slices.Equal(l, wantL) {
		t.Errorf("Seal(%v): its two lists share memory", h)
	}
	for i := range l {
		l[i] = api.Sample{T: -7, V: -7}
	}
	_ = append(l, api.Sample{T: -7, V: -7})
	if !slices.Equal(all, before) {
		t.Errorf("Seal(%v) shares, or has written to, what it was given", h)
	}
}

// 7.1: what may be, and what may not in one part.
func TestMay(t *testing.T) {
	for _, h := range some() {
		if !May(h) {
			t.Errorf("May(%v) = false", h)
		}
	}
	for _, h := range wrong() {
		if May(h) {
			t.Errorf("May(%v) = true", h)
		}
	}
}

// 7.1: all heads of up to three times about the edges, held against the words, one sample at a time.
func TestMayPlain(t *testing.T) {
	edges := []int64{math.MinInt64, -1, 0, 1, 2, api.MaxTime - 1, api.MaxTime, api.MaxTime + 1, math.MaxInt64}
	well := 0
	check := func(h api.Head) {
		want := h.Sealed >= 0 && h.Sealed <= api.MaxTime
		for i, s := range h.L {
			want = want && s.T >= 0 && s.T < api.MaxTime && s.T >= h.Sealed
			want = want && (i == 0 || s.T > h.L[i-1].T)
		}
		if May(h) != want {
			t.Errorf("May(%v) = %v", h, !want)
		}
		if want {
			well++
		}
	}
	for _, sealed := range edges {
		check(headOf(sealed))
		for _, a := range edges {
			check(headOf(sealed, a))
			for _, b := range edges {
				check(headOf(sealed, a, b))
				for _, c := range edges {
					check(headOf(sealed, a, b, c))
				}
			}
		}
	}
	if well < 20 {
		t.Errorf("only %d of the heads may be", well)
	}
}

// 7.1: a sample is in its place: the document's example, ahead of all, behind all, into none, at the edges of time.
func TestPutWritten(t *testing.T) {
	for _, c := range []struct {
		h    api.Head
		t    int64
		want api.Head
	}{
		{headOf(2, 2, 5), 3, headOf(2, 2, 3, 5)},
		{headOf(0, 2, 5), 3, headOf(0, 2, 3, 5)},
		{headOf(0, 2, 5), 4, headOf(0, 2, 4, 5)},
		{headOf(0, 2, 5), 0, headOf(0, 0, 2, 5)},
		{headOf(1, 2, 5), 1, headOf(1, 1, 2, 5)},
		{headOf(0, 2, 5), 6, headOf(0, 2, 5, 6)},
		{headOf(0, 2, 5), api.MaxTime - 1, headOf(0, 2, 5, api.MaxTime-1)},
		{headOf(0), 0, headOf(0, 0)},
		{headOf(7), 7, headOf(7, 7)},
		{headOf(7), 9, headOf(7, 9)},
		{headOf(0), api.MaxTime - 1, headOf(0, api.MaxTime-1)},
		{headOf(api.MaxTime - 1), api.MaxTime - 1, headOf(api.MaxTime-1, api.MaxTime-1)},
		{api.Head{L: every(0, 2, api.MaxSamples-1)}, 51, api.Head{L: slices.Concat(every(0, 2, 26), at(51), every(52, 2, 37))}},
	} {
		checkPut(t, c.h, api.Sample{T: c.t, V: valueAt(c.t)}, c.want, api.OK)
	}
	for _, v := range []int64{math.MinInt64, -1, 0, math.MaxInt64} {
		checkPut(t, headOf(0, 2, 5), api.Sample{T: 3, V: v}, api.Head{L: []api.Sample{at(2)[0], {T: 3, V: v}, at(5)[0]}}, api.OK)
	}
}

// 7.1: what may not be is ErrArg, whatever else might be told of it, and h is answered as it is.
func TestPutWrong(t *testing.T) {
	for _, h := range wrong() {
		for _, time := range []int64{math.MinInt64, -1, 0, 2, 3, 5, 50, api.MaxTime - 1, api.MaxTime, math.MaxInt64} {
			checkPut(t, h, api.Sample{T: time, V: 1}, h, api.ErrArg)
		}
	}
	for _, h := range some() {
		for _, time := range []int64{math.MinInt64, -api.MaxTime, -1, api.MaxTime, api.MaxTime + 1, math.MaxInt64} {
			checkPut(t, h, api.Sample{T: time, V: 1}, h, api.ErrArg)
		}
	}
}

// 7.1: below what is sealed it is late, though the head be full.
func TestPutLate(t *testing.T) {
	checkPut(t, headOf(2, 2, 5), api.Sample{T: 1}, headOf(2, 2, 5), api.ErrLate)
	checkPut(t, headOf(api.MaxTime), api.Sample{T: api.MaxTime - 1}, headOf(api.MaxTime), api.ErrLate)
	for _, h := range some() {
		for _, time := range []int64{0, h.Sealed / 2, h.Sealed - 1} {
			if time >= 0 && time < h.Sealed {
				checkPut(t, h, api.Sample{T: time, V: 1}, h, api.ErrLate)
			}
		}
	}
}

// 7.1: a time that is there is told, of whatever value, though the head be full; what is there stays.
func TestPutTwice(t *testing.T) {
	for _, h := range some() {
		for _, s := range h.L {
			checkPut(t, h, s, h, api.ErrTwice)
			checkPut(t, h, api.Sample{T: s.T, V: s.V + 1}, h, api.ErrTwice)
		}
	}
}

// 7.1: MaxSamples fit, one more does not, wherever its place were.
func TestPutFull(t *testing.T) {
	var h api.Head
	for n := range int64(api.MaxSamples) {
		next, code := Put(h, api.Sample{T: 10 + 2*n, V: n})
		if code != api.OK || len(next.L) != int(n)+1 {
			t.Fatalf("sample %d: %v, %d", n, next, code)
		}
		h = next
	}
	for _, time := range []int64{0, 9, 11, 75, 135, 137, api.MaxTime - 1} {
		checkPut(t, h, api.Sample{T: time, V: 1}, h, api.ErrFull)
	}
}

// 7.1: all that comes of Put, at every time about the samples, held against a list that is sorted anew.
func TestPutPlain(t *testing.T) {
	for _, h := range some() {
		for _, s := range append(slices.Clone(h.L), api.Sample{T: h.Sealed}) {
			for time := s.T - 2; time <= s.T+2; time++ {
				want, code := h, plainCode(h, time)
				if code == api.OK {
					want = copied(h)
					want.L = append(want.L, api.Sample{T: time, V: 77})
					sort.Slice(want.L, func(i, j int) bool { return want.L[i].T < want.L[j].T })
				}
				checkPut(t, h, api.Sample{T: time, V: 77}, want, code)
			}
		}
	}
}

// plainCode: what is told of a sample at this time, for a head that may be, in the document's order.
func plainCode(h api.Head, time int64) int {
	switch {
	case time < 0 || time >= api.MaxTime:
		return api.ErrArg
	case time < h.Sealed:
		return api.ErrLate
	case slices.ContainsFunc(h.L, func(s api.Sample) bool { return s.T == time }):
		return api.ErrTwice
	case len(h.L) == api.MaxSamples:
		return api.ErrFull
	}
	return api.OK
}

// 7.1: in whatever order samples come, the head is the same, and each that it was on the way stays as it was.
func TestPutOrders(t *testing.T) {
	times := []int64{0, 1, 4, 9, 10, 200}
	want := headOf(0, times...)
	var try func(h api.Head, rest []int64)
	try = func(h api.Head, rest []int64) {
		if len(rest) == 0 && !equal(h, want) {
			t.Errorf("came to %v", h)
		}
		was := copied(h)
		for i, time := range rest {
			next, code := Put(h, api.Sample{T: time, V: valueAt(time)})
			if code != api.OK || !May(next) {
				t.Fatalf("Put(%v, %d) = %v, %d", h, time, next, code)
			}
			try(next, slices.Concat(rest[:i], rest[i+1:]))
			if !equal(h, was) {
				t.Fatalf("%v has become %v", was, h)
			}
		}
	}
	try(api.Head{}, times)
}

// 7.2: by count, and by time from the first sample on, at their edges.
func TestDueWritten(t *testing.T) {
	for _, c := range []struct {
		h     api.Head
		count int
		span  int64
		now   int64
		want  bool
	}{
		{headOf(0, 10, 20), 3, 30, 39, false}, {headOf(0, 10, 20), 3, 30, 40, true}, {headOf(0, 10, 20), 3, 30, 41, true}, {headOf(0, 10, 20), 3, 30, 50, true},
		{headOf(0, 10, 20), 2, 30, 0, true}, {headOf(0, 10, 20), 1, 30, 0, true}, {headOf(0, 10), 2, 30, 0, false}, {headOf(0, 10), 1, 200, math.MinInt64, true},
		{headOf(0), 1, 1, math.MaxInt64, false}, {headOf(5), 1, 1, math.MaxInt64, false}, {headOf(api.MaxTime), 1, 1, math.MaxInt64, false},
		{headOf(0, 0), 2, 1, 0, false}, {headOf(0, 0), 2, 1, 1, true}, {headOf(0, 0), 2, 200, 199, false}, {headOf(0, 0), 2, 200, 200, true},
		{headOf(9, 10, 20), 3, 30, 38, false}, {headOf(9, 10, 20), 3, 30, 39, false}, {headOf(9, 10, 20), 3, 30, 40, true},
		{headOf(0, 10, 20), 3, 30, math.MinInt64, false}, {headOf(0, 10, 20), 3, 30, -40, false}, {headOf(0, 10, 20), 3, 30, math.MaxInt64, true},
		{headOf(0, api.MaxTime-1), 2, 200, api.MaxTime, false}, {headOf(0, api.MaxTime-1), 2, 200, api.MaxTime + 198, false}, {headOf(0, api.MaxTime-1), 2, 200, api.MaxTime + 199, true},
		{api.Head{L: every(0, 1, 63)}, 64, 200, 199, false}, {api.Head{L: every(0, 1, 63)}, 64, 200, 200, true}, {api.Head{L: every(0, 1, 64)}, 64, 200, 0, true},
	} {
		if Due(c.h, sealing(c.count, c.span), c.now) != c.want {
			t.Errorf("Due(%v, count %d, span %d, now %d) = %v", c.h, c.count, c.span, c.now, !c.want)
		}
	}
}

// 7.2: every count, and now about each sample and its span, held against the words.
func TestDuePlain(t *testing.T) {
	for _, h := range some() {
		was := copied(h)
		for count := 1; count <= api.MaxSamples; count++ {
			for _, span := range []int64{1, 30, 200} {
				nows := []int64{math.MinInt64, -1, 0, math.MaxInt64}
				for _, s := range h.L {
					nows = append(nows, s.T, s.T+1, s.T+span-1, s.T+span)
				}
				for _, now := range nows {
					byTime := len(h.L) > 0 && now >= 0 && now-h.L[0].T >= span
					want := byTime || len(h.L) >= count
					if Due(h, sealing(count, span), now) != want {
						t.Fatalf("Due(%v, count %d, span %d, now %d) = %v", h, count, span, now, !want)
					}
				}
			}
		}
		if !equal(h, was) {
			t.Errorf("%v has become %v", was, h)
		}
	}
}

// 7.2: a head or a policy that may not be asks for nothing.
func TestDueWrong(t *testing.T) {
	for _, now := range []int64{math.MinInt64, 0, 1000, api.MaxTime, math.MaxInt64} {
		for _, h := range wrong() {
			if Due(h, sealing(1, 1), now) {
				t.Errorf("Due(%v, .., %d) = true", h, now)
			}
		}
		for _, p := range wrongPolicies() {
			if Due(headOf(0, 10, 20), p, now) {
				t.Errorf("Due(.., %v, %d) = true", p, now)
			}
		}
	}
}

// 7.2: what is sealed, from where, up to where: one above the last time.
func TestSeal(t *testing.T) {
	for _, c := range []struct {
		h  api.Head
		is int64
	}{
		{headOf(2, 2, 5), 6}, {headOf(0, 0), 1}, {headOf(0, 7), 8}, {headOf(7, 7), 8}, {headOf(3, 10, 20, 1000), 1001},
		{headOf(0, api.MaxTime-1), api.MaxTime}, {headOf(api.MaxTime-1, api.MaxTime-1), api.MaxTime}, {headOf(0, 0, api.MaxTime-2), api.MaxTime - 1},
		{api.Head{L: every(0, 1, api.MaxSamples)}, api.MaxSamples}, {api.Head{Sealed: 4, L: every(7, 10, api.MaxSamples)}, 638},
	} {
		checkSeal(t, c.h, api.Head{Sealed: c.is}, c.h.L, c.h.Sealed, c.is, api.OK)
	}
}

// 7.2: ErrArg of a head that may not be, ErrNone of one without samples; h is answered as it is, and nothing beside it.
func TestSealWrong(t *testing.T) {
	for _, h := range wrong() {
		checkSeal(t, h, h, nil, 0, 0, api.ErrArg)
	}
	for _, sealed := range []int64{0, 1, 60, api.MaxTime - 1, api.MaxTime} {
		checkSeal(t, headOf(sealed), headOf(sealed), nil, 0, 0, api.ErrNone)
		checkSeal(t, api.Head{Sealed: sealed, L: []api.Sample{}}, headOf(sealed), nil, 0, 0, api.ErrNone)
	}
}

// 7.3: behind a seal, nothing below it is taken any more, and what is at it, is.
func TestSealedIsLate(t *testing.T) {
	for _, h := range some() {
		if len(h.L) == 0 {
			continue
		}
		next, l, was, is, code := Seal(h)
		if code != api.OK || !May(next) || was > l[0].T || is <= was {
			t.Fatalf("Seal(%v) = %v, %v, %d, %d, %d", h, next, l, was, is, code)
		}
		for _, s := range l {
			checkPut(t, next, s, next, api.ErrLate)
			if s.T > 0 {
				checkPut(t, next, api.Sample{T: s.T - 1}, next, api.ErrLate)
			}
		}
		if is < api.MaxTime {
			checkPut(t, next, api.Sample{T: is, V: 1}, api.Head{Sealed: is, L: []api.Sample{{T: is, V: 1}}}, api.OK)
		}
	}
}

// 7.3: over a long run, what was sealed rises, seal behind seal, stays as it was, and with what is in the head is all that was taken.
func TestSealedStays(t *testing.T) {
	var h api.Head
	var sealed, sealedWas, taken []api.Sample
	var seals [][]api.Sample
	seed := uint64(1)
	next := func(n uint64) int64 {
		seed = seed*6364136223846793005 + 1442695040888963407
		return int64(seed >> 33 % n)
	}
	p := sealing(12, 40)
	for now := range int64(5000) {
		s := api.Sample{T: max(0, now+next(60)-40), V: next(1000) - 500}
		was := copied(h)
		got, code := Put(h, s)
		if !equal(h, was) || code != plainCode(h, s.T) || code != api.OK && !equal(got, h) {
			t.Fatalf("Put(%v, %v) = %v, %d", was, s, got, code)
		}
		if code == api.OK {
			taken = append(taken, s)
		}
		h = got
		if !Due(h, p, now) {
			continue
		}
		empty, l, from, to, code := Seal(h)
		if code != api.OK || from != h.Sealed || to != empty.Sealed || to <= from || len(empty.L) != 0 {
			t.Fatalf("Seal(%v) = %v, %v, %d, %d, %d", h, empty, l, from, to, code)
		}
		seals = append(seals, l)
		sealedWas = append(sealedWas, l...)
		h = empty
	}
	for _, l := range seals {
		sealed = append(sealed, l...)
	}
	if !slices.Equal(sealed, sealedWas) {
		t.Error("what was sealed has changed")
	}
	all := append(sealed, h.L...)
	slices.SortFunc(taken, func(a, b api.Sample) int { return int(a.T - b.T) })
	if len(seals) < 100 || !slices.Equal(all, taken) {
		t.Errorf("%d seals, %d samples in all; taken were %d", len(seals), len(all), len(taken))
	}
}

// Same: alike in where all is sealed and in each sample's time and value, whether it may be or not, whoever's memory it is.
func TestSame(t *testing.T) {
	all := slices.Concat(some(), wrong(), []api.Head{{L: at(2, 5, 6)}, {L: []api.Sample{{T: 2, V: 1}, {T: 5, V: 1}}}, {L: []api.Sample{{T: 2, V: 1}, {T: 5, V: 2}}}})
	for _, a := range all {
		for _, b := range all {
			was := copied(a)
			if Same(a, copied(b)) != equal(a, b) || Same(b, a) != equal(a, b) || !equal(a, was) {
				t.Errorf("Same(%v, %v) = %v", a, b, Same(a, b))
			}
		}
	}
	if !Same(api.Head{Sealed: 3}, api.Head{Sealed: 3, L: []api.Sample{}}) {
		t.Error("a nil list and an empty one are not the same")
	}
	if Same(headOf(0, 2), headOf(1, 2)) || Same(headOf(0, 2), headOf(0)) || Same(headOf(0, 2), headOf(0, 3)) || Same(headOf(0, 2), headOf(0, 2, 3)) {
		t.Error("heads that differ in one part are the same")
	}
	if Same(api.Head{L: []api.Sample{{T: 2, V: 1}}}, api.Head{L: []api.Sample{{T: 2, V: 2}}}) {
		t.Error("heads that differ in a value are the same")
	}
}

// All calls, of a list far longer than may be: they end, and h is as it is.
func TestLong(t *testing.T) {
	h := api.Head{L: every(0, 1, 1<<20)}
	if got, code := Put(h, api.Sample{T: 5}); code != api.ErrArg || !equal(got, h) {
		t.Errorf("Put: %d", code)
	}
	if got, l, was, is, code := Seal(h); code != api.ErrArg || !equal(got, h) || len(l) != 0 || was != 0 || is != 0 {
		t.Errorf("Seal: %d", code)
	}
	if May(h) || Due(h, policy.Default(), 1<<40) || !Same(h, h) {
		t.Error("a list that is too long may be")
	}
}
