package sum

import (
	"bytes"
	"math"
	"math/big"
	"testing"
)

// some: bytes of all lengths up to 40 and some more, low, high and mixed.
func some() [][]byte {
	l := [][]byte{nil, {}}
	for n := 1; n <= 40; n++ {
		mixed := make([]byte, n)
		for i := range mixed {
			mixed[i] = byte(i*i*37 + n*11)
		}
		l = append(l, make([]byte, n), bytes.Repeat([]byte{255}, n), mixed)
	}
	return append(l, make([]byte, 5000), bytes.Repeat([]byte{255}, 5000), []byte("samples of two sites"))
}

// starts: sums to go on from: the least, those about Prime, the greatest.
func starts() []uint32 {
	return []uint32{0, 1, 2, 7, 256, 257, 1 << 16, 16711935, 16711936, 1 << 31, Prime - 2, Prime - 1, Prime, Prime + 1, math.MaxUint32}
}

// whole: the promise in one piece, over numbers of any size: s times 257^n, and each byte and 1 more times 257 for each byte behind it.
func whole(s uint32, b []byte) uint32 {
	n := new(big.Int).SetUint64(uint64(s))
	for _, c := range b {
		n.Mul(n, big.NewInt(257))
		n.Add(n, big.NewInt(int64(c)+1))
	}
	return uint32(n.Mod(n, big.NewInt(4294967291)).Uint64())
}

// 2.1: sums worked out by hand.
func TestWritten(t *testing.T) {
	for _, c := range []struct {
		b    []byte
		want uint32
	}{
		{nil, 1},
		{[]byte{}, 1},
		{[]byte{0}, 258},
		{[]byte{1}, 259},
		{[]byte{255}, 513},
		{[]byte{0, 0}, 66307},
		{[]byte{5, 0}, 67592},
		{[]byte{0, 5}, 66312},
		{[]byte{255, 255}, 132097},
		{[]byte{0, 0, 0}, 17040900},
		// 17040900 * 257 + 1 is 4379511301, the first of these beyond Prime.
		{[]byte{0, 0, 0, 0}, 84544010},
	} {
		if s := Of(c.b); s != c.want {
			t.Errorf("Of(% X) = %d, want %d", c.b, s, c.want)
		}
	}
}

// 2.1: s is taken modulo Prime first, with and without bytes behind it.
func TestStartAtPrime(t *testing.T) {
	for _, c := range []struct {
		s    uint32
		b    []byte
		want uint32
	}{
		{0, nil, 0},
		{7, nil, 7},
		{Prime - 1, nil, Prime - 1},
		{Prime, nil, 0},
		{Prime + 1, nil, 1},
		{math.MaxUint32, nil, 4},
		{7, []byte{2}, 7*257 + 3},
		{0, []byte{0}, 1},
		{Prime, []byte{0}, 1},
		{Prime + 3, []byte{0}, 3*257 + 1},
		{math.MaxUint32, []byte{255}, 4*257 + 256},
		// -1 times 257, and 255 and 1 more: -1 again.
		{Prime - 1, []byte{255}, Prime - 1},
		{Prime - 1, []byte{255, 255, 255}, Prime - 1},
		{Prime - 1, []byte{0}, Prime - 256},
		// 16711935 * 257 is Prime + 4, 16711934 * 257 is Prime - 253: the edge from both sides.
		{16711935, []byte{0}, 5},
		{16711934, []byte{252}, 0},
		{16711934, []byte{253}, 1},
		{16711934, []byte{251}, Prime - 1},
	} {
		if s := More(c.s, c.b); s != c.want {
			t.Errorf("More(%d, % X) = %d, want %d", c.s, c.b, s, c.want)
		}
	}
}

// 2.1: the same as the promise in numbers of any size, whatever the bytes and the beginning; always below Prime.
func TestWhole(t *testing.T) {
	for _, b := range some() {
		if s := Of(b); s != whole(1, b) {
			t.Errorf("Of of %d bytes = %d, want %d", len(b), s, whole(1, b))
		}
		for _, from := range starts() {
			s := More(from, b)
			if s != whole(from, b) {
				t.Errorf("More(%d, %d bytes) = %d, want %d", from, len(b), s, whole(from, b))
			}
			if s >= Prime {
				t.Errorf("More(%d, %d bytes) = %d, not below Prime", from, len(b), s)
			}
		}
	}
}

// 2.1: bytes may come in pieces: wherever they are parted, the sum is the same.
func TestPieces(t *testing.T) {
	for _, b := range some() {
		if len(b) > 100 {
			continue
		}
		for k := range len(b) + 1 {
			if s := More(Of(b[:k]), b[k:]); s != Of(b) {
				t.Errorf("% X parted at %d: %d, want %d", b, k, s, Of(b))
			}
		}
	}
}

// 2.1: a byte of 0 counts, so that zeros ahead or behind are told from none.
func TestZerosCount(t *testing.T) {
	seen := map[uint32]int{}
	for n := range 2000 {
		s := Of(make([]byte, n))
		if k, ok := seen[s]; ok {
			t.Fatalf("%d zeros and %d have the sum %d", k, n, s)
		}
		seen[s] = n
	}
	if More(0, []byte{0, 7}) == More(0, []byte{7}) {
		t.Error("a zero ahead is not seen from 0 on")
	}
}

// 2.1: only the bytes within the list count, and they are left as they were.
func TestHandedIn(t *testing.T) {
	room := []byte{1, 2, 3, 4, 5}
	if Of(room[:2]) != Of([]byte{1, 2}) {
		t.Error("what stands behind the end is summed")
	}
	if first := Of(room); Of(room) != first || More(1, room) != first {
		t.Error("the same bytes, another sum")
	}
	if !bytes.Equal(room, []byte{1, 2, 3, 4, 5}) {
		t.Errorf("% X: changed", room)
	}
}

// 2.2: each byte of each place changed into every other one.
func TestOneByteUnlike(t *testing.T) {
	for _, b := range some() {
		if len(b) > 100 {
			continue
		}
		s := Of(b)
		other := bytes.Clone(b)
		for i := range b {
			for d := 1; d < 256; d++ {
				other[i] = b[i] + byte(d)
				if Of(other) == s {
					t.Fatalf("% X and % X have the sum %d", b, other, s)
				}
			}
			other[i] = b[i]
		}
	}
}

// 2.2: in bytes of a segment's length and from any beginning, the first, the last and those between.
func TestOneByteUnlikeLong(t *testing.T) {
	b := bytes.Repeat([]byte{0, 255, 17, 128}, 1025)
	for _, from := range starts() {
		s := More(from, b)
		for _, i := range []int{0, 1, 2, 3, 255, 256, 257, 2049, 4098, 4099} {
			other := bytes.Clone(b)
			for d := 1; d < 256; d += 2 {
				other[i] = b[i] ^ byte(d)
				if More(from, other) == s {
					t.Fatalf("byte %d as %d and as %d: the sum %d", i, b[i], other[i], s)
				}
			}
		}
	}
}

// 2.2 stands on this: Prime has no divisor, so no power of 257 times less than 256 comes to 0.
func TestPrime(t *testing.T) {
	if Prime != 4294967291 {
		t.Fatal("Prime is another number")
	}
	for d := uint64(2); d*d <= Prime; d++ {
		if Prime%d == 0 {
			t.Fatalf("%d divides Prime", d)
		}
	}
}
