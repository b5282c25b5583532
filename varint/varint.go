// Package varint is layer 1, numbers as bytes: see shared/doc/01-varint.md.
package varint

import "math/bits"

const (
	group = 7          // bits of a number that a byte takes
	more  = 1 << group // what is added to each byte but the last one
	most  = 9          // bytes of 2^63 - 1, of which no number has more
)

// Put: the bytes of n; empty, if n is below 0.
func Put(n int) string {
	if n < 0 {
		return ""
	}
	l := make([]byte, 0, most)
	for ; n >= more; n /= more {
		l = append(l, byte(n%more)+more)
	}
	return string(append(l, byte(n)))
}

// Len: how many bytes Put(n) has.
func Len(n int) int {
	if n < 0 {
		return 0
	}
	// 0 has no bits, but a byte all the same.
	return max(1, (bits.Len(uint(n))+group-1)/group)
}

// Read: the number whose bytes stand in s from at on, the place behind it, and true; else noughts and false.
func Read(s string, at int) (int, int, bool) {
	if at < 0 || at >= len(s) {
		return 0, 0, false
	}
	n, rest := 0, s[at:]
taking:
	for i := 0; i < len(rest) && i < most; i++ {
		b := rest[i]
		n += int(b%more) << (group * i)
		switch {
		case b >= more:
		case b == 0 && i > 0:
			// Without this last byte it would be the same number, so these aren't its fewest.
			break taking
		default:
			return n, at + i + 1, true
		}
	}
	return 0, 0, false
}
