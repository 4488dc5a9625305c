package vary

import (
	"bytes"
	"math"
	"testing"

	"twinkeep/api"
)

// edges: the numbers about which the count of bytes changes, and those beside them.
func edges() []uint64 {
	l := []uint64{0, 1, 2, 63, 64, 300, 1 << 32, 1 << 40, math.MaxInt64, math.MaxUint64 - 1, math.MaxUint64}
	for k := 7; k < 64; k += 7 {
		n := uint64(1) << k
		l = append(l, n-1, n, n+1)
	}
	return l
}

// checkFault: an answer that tells a fault has the number 0 and the place that was handed in.
func checkFault(t *testing.T, b []byte, at, want int) {
	t.Helper()
	if n, to, code := Get(b, at); n != 0 || to != at || code != want {
		t.Errorf("Get(% X, %d) = %d, %d, %d; want 0, %d, %d", b, at, n, to, code, at, want)
	}
}

// 1.1: the bytes themselves, written out.
func TestPutBytes(t *testing.T) {
	for _, c := range []struct {
		n uint64
		b []byte
	}{
		{0, []byte{0}},
		{1, []byte{1}},
		{127, []byte{0x7F}},
		{128, []byte{0x80, 0x01}},
		{129, []byte{0x81, 0x01}},
		{300, []byte{0xAC, 0x02}},
		{1<<14 - 1, []byte{0xFF, 0x7F}},
		{1 << 14, []byte{0x80, 0x80, 0x01}},
		{1<<63 - 1, []byte{0xFF, 0xFF, 0xFF, 0xFF, 0xFF, 0xFF, 0xFF, 0xFF, 0x7F}},
		{1 << 63, []byte{0x80, 0x80, 0x80, 0x80, 0x80, 0x80, 0x80, 0x80, 0x80, 0x01}},
		{math.MaxUint64, []byte{0xFF, 0xFF, 0xFF, 0xFF, 0xFF, 0xFF, 0xFF, 0xFF, 0xFF, 0x01}},
	} {
		if b := Put(c.n); !bytes.Equal(b, c.b) {
			t.Errorf("Put(%d) = % X, want % X", c.n, b, c.b)
		}
	}
}

// 1.1: seven bits a byte, the lowest first; the highest bit in all bytes but the last; as few as may be.
func TestPutShape(t *testing.T) {
	for _, n := range edges() {
		b := Put(n)
		var back uint64
		for i, c := range b {
			back |= uint64(c&0x7F) << (7 * i)
			if last := i == len(b)-1; (c < 0x80) != last {
				t.Errorf("Put(%d) = % X: highest bit of byte %d", n, b, i)
			}
		}
		if back != n {
			t.Errorf("Put(%d) = % X: comes to %d", n, b, back)
		}
		if len(b) > 1 && b[len(b)-1] == 0 {
			t.Errorf("Put(%d) = % X: a byte more than it needs", n, b)
		}
		if Size(n) != len(b) {
			t.Errorf("Size(%d) = %d, Put makes %d bytes", n, Size(n), len(b))
		}
	}
}

// 1.1: what is answered is the caller's own.
func TestPutFresh(t *testing.T) {
	a := Put(300)
	a[0], a[1] = 9, 9
	if b := Put(300); !bytes.Equal(b, []byte{0xAC, 0x02}) {
		t.Errorf("Put(300) = % X behind a write into an older answer", b)
	}
}

// 1.1: Get reads what Put made, wherever it stands, and looks at nothing ahead of it or behind it.
func TestGetBack(t *testing.T) {
	for _, n := range edges() {
		for _, ahead := range [][]byte{nil, {0}, {0xFF}, {0x80, 0x80}} {
			for _, behind := range [][]byte{nil, {0}, {0xFF, 0xFF}} {
				b := append(append(append([]byte{}, ahead...), Put(n)...), behind...)
				was := bytes.Clone(b)
				end := len(ahead) + Size(n)
				if x, to, code := Get(b, len(ahead)); x != n || to != end || code != api.OK {
					t.Errorf("Get(% X, %d) = %d, %d, %d; want %d, %d, 0", b, len(ahead), x, to, code, n, end)
				}
				if !bytes.Equal(b, was) {
					t.Errorf("Get changed % X into % X", was, b)
				}
			}
		}
	}
}

// 1.1: numbers that stand one behind the other are read one behind the other, and nothing is left.
func TestGetChain(t *testing.T) {
	var b []byte
	for _, n := range edges() {
		b = append(b, Put(n)...)
	}
	at := 0
	for _, n := range edges() {
		x, to, code := Get(b, at)
		if x != n || to != at+Size(n) || code != api.OK {
			t.Fatalf("Get at %d = %d, %d, %d; want %d", at, x, to, code, n)
		}
		at = to
	}
	if at != len(b) {
		t.Errorf("ends at %d of %d", at, len(b))
	}
}

// 1.1: a number that has no end.
func TestGetNoEnd(t *testing.T) {
	for _, n := range edges() {
		whole := Put(n)
		for k := range whole {
			b := append([]byte{1, 2}, whole[:k]...)
			checkFault(t, b, 2, api.ErrBytes)
		}
	}
	checkFault(t, nil, 0, api.ErrBytes)
	checkFault(t, []byte{}, 0, api.ErrBytes)
	checkFault(t, []byte{1, 2, 3}, 3, api.ErrBytes)
	// The bytes that follow are there, but not within the list that is handed in.
	checkFault(t, []byte{0x80, 0x01}[:1], 0, api.ErrBytes)
}

// 1.1: a number that has a byte more than it needs.
func TestGetTooLong(t *testing.T) {
	for _, n := range edges() {
		b := Put(n)
		for len(b) < 12 {
			b[len(b)-1] |= 0x80
			b = append(b, 0)
			checkFault(t, b, 0, api.ErrBytes)
			checkFault(t, append([]byte{7}, append(b, 5)...), 1, api.ErrBytes)
		}
	}
	if n, to, code := Get([]byte{0, 0}, 0); n != 0 || to != 1 || code != api.OK {
		t.Errorf("a lone 0: %d, %d, %d", n, to, code)
	}
}

// 1.1: a number that is beyond 64 bits, from the first one on.
func TestGetBeyond(t *testing.T) {
	for _, low := range []byte{0x80, 0xFF} {
		nine := bytes.Repeat([]byte{low}, 9)
		for last := 2; last < 256; last++ {
			b := append(bytes.Clone(nine), byte(last))
			checkFault(t, b, 0, api.ErrBytes)
			checkFault(t, append(b, 0), 0, api.ErrBytes)
			checkFault(t, append(b, 1), 0, api.ErrBytes)
		}
	}
	checkFault(t, bytes.Repeat([]byte{0xFF}, 1000), 0, api.ErrBytes)
	checkFault(t, append(bytes.Repeat([]byte{0x80}, 1000), 1), 0, api.ErrBytes)
}

// 1.1: a place that is none is told ahead of anything about bytes.
func TestGetPlace(t *testing.T) {
	for _, b := range [][]byte{nil, {}, {1}, {0x80}, {0x80, 0}} {
		for _, at := range []int{-1, -2, math.MinInt, len(b) + 1, len(b) + 2, math.MaxInt} {
			checkFault(t, b, at, api.ErrArg)
		}
	}
	// Room behind the end is no place.
	checkFault(t, make([]byte, 1, 8), 2, api.ErrArg)
}

// 1.1: of all bytes up to three, Get takes those that Put makes and no others: each that it takes is Put's, and they are as many as there are numbers of that size.
func TestGetAllShort(t *testing.T) {
	for size := 1; size <= 3; size++ {
		b := make([]byte, size)
		taken := 0
		for x := range 1 << (8 * size) {
			for i := range b {
				b[i] = byte(x >> (8 * i))
			}
			n, to, code := Get(b, 0)
			if code != api.OK {
				checkFault(t, b, 0, api.ErrBytes)
				continue
			}
			if to < 1 || to > size || !bytes.Equal(Put(n), b[:to]) {
				t.Fatalf("Get(% X, 0) = %d, %d: Put does not make that", b, n, to)
			}
			if to == size {
				taken++
			}
		}
		want := 1 << (7 * size)
		if size > 1 {
			want -= 1 << (7 * (size - 1))
		}
		if taken != want {
			t.Errorf("of %d bytes: %d taken, want %d", size, taken, want)
		}
	}
}

// 1.2: the rule's own words: 2 n, or -2 n - 1.
func TestZigRule(t *testing.T) {
	for n := int64(-1000); n <= 1000; n++ {
		want := 2 * n
		if n < 0 {
			want = -2*n - 1
		}
		if z := Zig(n); z != uint64(want) {
			t.Errorf("Zig(%d) = %d, want %d", n, z, want)
		}
	}
	for _, c := range []struct {
		n int64
		z uint64
	}{
		{math.MinInt64, math.MaxUint64},
		{math.MinInt64 + 1, math.MaxUint64 - 2},
		{math.MaxInt64, math.MaxUint64 - 1},
		{math.MaxInt64 - 1, math.MaxUint64 - 3},
		{1 << 62, 1 << 63},
		{-1 << 62, 1<<63 - 1},
		{-1<<62 - 1, 1<<63 + 1},
	} {
		if z := Zig(c.n); z != c.z {
			t.Errorf("Zig(%d) = %d, want %d", c.n, z, c.z)
		}
	}
}

// 1.2: Zag is Zig's way back, from both sides.
func TestZagBack(t *testing.T) {
	for _, n := range edges() {
		if x := Zag(Zig(int64(n))); x != int64(n) {
			t.Errorf("Zag(Zig(%d)) = %d", int64(n), x)
		}
		if x := Zag(Zig(-int64(n))); x != -int64(n) {
			t.Errorf("Zag(Zig(%d)) = %d", -int64(n), x)
		}
		if x := Zig(Zag(n)); x != n {
			t.Errorf("Zig(Zag(%d)) = %d", n, x)
		}
	}
	for i, want := range []int64{0, -1, 1, -2, 2, -3, 3} {
		if x := Zag(uint64(i)); x != want {
			t.Errorf("Zag(%d) = %d, want %d", i, x, want)
		}
	}
	if x := Zag(math.MaxUint64); x != math.MinInt64 {
		t.Errorf("Zag of the greatest = %d", x)
	}
}

// 1.3: a number below 2^(7 k) has at most k bytes, the next one more; ten at the most.
func TestSmallIsShort(t *testing.T) {
	for k := 1; k <= 9; k++ {
		n := uint64(1) << (7 * k)
		if Size(n-1) != k || len(Put(n-1)) != k {
			t.Errorf("%d: Size %d, %d bytes, want %d", n-1, Size(n-1), len(Put(n-1)), k)
		}
		if Size(n) != k+1 || len(Put(n)) != k+1 {
			t.Errorf("%d: Size %d, %d bytes, want %d", n, Size(n), len(Put(n)), k+1)
		}
	}
	if Size(0) != 1 || Size(math.MaxUint64) != 10 {
		t.Errorf("Size(0) = %d, of the greatest %d", Size(0), Size(math.MaxUint64))
	}
}

// 1.3: numbers near 0 are short whatever their sign, and of two the one nearer to 0 is never the longer.
func TestSmallSignedIsShort(t *testing.T) {
	for n := int64(-64); n < 64; n++ {
		if Size(Zig(n)) != 1 {
			t.Errorf("Size(Zig(%d)) = %d", n, Size(Zig(n)))
		}
	}
	if Size(Zig(64)) != 2 || Size(Zig(-65)) != 2 {
		t.Errorf("of 64: %d, of -65: %d", Size(Zig(64)), Size(Zig(-65)))
	}
	for k := range 63 {
		n := int64(1) << k
		if Size(Zig(n-1)) > Size(Zig(n)) || Size(Zig(1-n)) > Size(Zig(-n)) {
			t.Errorf("nearer to 0 than %d, and longer", n)
		}
	}
}
