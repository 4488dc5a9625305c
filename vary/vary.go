// Package vary is numbers of as many bytes as they need: see DOC.md, chapter 1.
package vary

import (
	"math/bits"

	"twinkeep/api"
)

const (
	groupBits = 7    // of the number in each byte
	moreBit   = 0x80 // set in all bytes but the last
	groupMask = 0x7F // what a byte has of the number
	lastShift = 63   // of a tenth byte: one bit of 64 is left for it
	lastMost  = 1    // the most that a tenth byte may be
)

// Put is chapter 1's: n in groups of seven bits, the lowest first.
func Put(n uint64) []byte {
	b := make([]byte, 0, Size(n))
	for n >= moreBit {
		b = append(b, byte(n)|moreBit)
		n >>= groupBits
	}
	return append(b, byte(n))
}

// Get is chapter 1's: the number that begins at at, and where it ends.
func Get(b []byte, at int) (uint64, int, int) {
	if at < 0 || at > len(b) {
		return 0, at, api.ErrArg
	}
	var n uint64
	shift := 0
reading:
	for i, c := range b[at:] {
		switch {
		case shift == lastShift && c > lastMost:
			break reading
		case c >= moreBit:
			n |= uint64(c&groupMask) << shift
			shift += groupBits
			continue reading
		case c == 0 && i > 0:
			// A last group of nothing: the byte ahead could have been the last, so Put makes no such bytes.
			break reading
		}
		return n | uint64(c)<<shift, at + i + 1, api.OK
	}
	return 0, at, api.ErrBytes
}

// Zig is chapter 1's: numbers near 0 stay small, whatever their sign.
func Zig(n int64) uint64 {
	if n < 0 {
		// ^n is -n - 1, which the least int64 has, too; -n it has not.
		return uint64(^n)<<1 | 1
	}
	return uint64(n) << 1
}

// Zag is chapter 1's: it undoes Zig.
func Zag(n uint64) int64 {
	half := int64(n >> 1)
	if n&1 == 1 {
		return ^half
	}
	return half
}

// Size is chapter 1's: how many bytes Put makes of n.
func Size(n uint64) int {
	// 0 has no bit, but takes a byte as 1 does.
	return (bits.Len64(n|1) + groupBits - 1) / groupBits
}
