package crc

import (
	"hash/crc32"
	"math"
	"math/bits"
	"math/rand"
	"slices"
	"strings"
	"testing"
)

// known: texts and their sums, as they are published for CRC-32C.
var known = []struct {
	s   string
	sum uint32
}{
	{"", 0},
	{"a", 0xC1D04330},
	{"123456789", 0xE3069283},
	{strings.Repeat("\x00", 32), 0x8A9136AA},
	{strings.Repeat("\xff", 32), 0x62A8AB43},
	{ramp(0, 1), 0x46DD794E},
	{ramp(31, -1), 0x113FDB5C},
}

// edges: sums at the ends of their type, and such as are easily got wrong.
var edges = []uint32{0, 1, 2, 0xF, 0x10, 0x7F, 0x80, 0xFF, 0x100, 0x7FFFFFFF, 0x80000000, 0x82F63B78, 0xE3069283, 0xFFFFFFFE, math.MaxUint32}

// ramp: 32 bytes, from a first one on, by steps.
func ramp(from, step int) string {
	var l []byte
	for i := range 32 {
		l = append(l, byte(from+step*i))
	}
	return string(l)
}

// slow: the sum by the chapter's words, bit by bit.
func slow(s string) uint32 {
	return ^moved(math.MaxUint32, s)
}

// moved: the 32 bits behind the bytes of s, by the chapter's words.
func moved(sum uint32, s string) uint32 {
	for _, b := range []byte(s) {
		sum ^= uint32(b)
		for range 8 {
			out := sum & 1
			sum >>= 1
			if out == 1 {
				sum ^= 0x82F63B78
			}
		}
	}
	return sum
}

// texts: of each length up to 70, and of some greater ones, of bytes of all kinds.
func texts() []string {
	r := rand.New(rand.NewSource(2))
	var l []string
	for n := range 70 {
		l = append(l, text(r, n))
	}
	for _, n := range []int{127, 128, 255, 256, 257, 1023, 65536, 100003} {
		l = append(l, text(r, n))
	}
	return append(l, "\x00", "\x00\x00", "\xff", "\xff\xff\xff\xff", "héé", "\xc3", strings.Repeat("\x80", 9))
}

// text: so many bytes.
func text(r *rand.Rand, n int) string {
	l := make([]byte, n)
	r.Read(l)
	return string(l)
}

// same fails the test unless the sum is the one that is wanted.
func same(t *testing.T, what, s string, got, want uint32) {
	t.Helper()
	if got != want {
		t.Errorf("%s of %.40q (%d bytes) = %08X, want %08X", what, s, len(s), got, want)
	}
}

// P2.1: sums that are known.
func TestKnown(t *testing.T) {
	for _, k := range known {
		same(t, "Sum", k.s, Sum(k.s), k.sum)
		same(t, "On(0)", k.s, On(0, k.s), k.sum)
		same(t, "the chapter's words", k.s, slow(k.s), k.sum)
	}
}

// P2.1: the sum is the one of the chapter's words, of whatever bytes.
func TestSumBitByBit(t *testing.T) {
	c := crc32.MakeTable(crc32.Castagnoli)
	for _, s := range texts() {
		same(t, "Sum", s, Sum(s), slow(s))
		same(t, "Sum", s, Sum(s), crc32.Checksum([]byte(s), c))
	}
	for b := range 256 {
		s := string([]byte{byte(b)})
		same(t, "Sum", s, Sum(s), slow(s))
		for d := range 256 {
			s := string([]byte{byte(b), byte(d)})
			same(t, "Sum", s, Sum(s), slow(s))
		}
	}
}

// P2.1: of no texts, and of texts without bytes.
func TestSumOfNone(t *testing.T) {
	for _, l := range [][]string{nil, {}, {""}, {"", ""}, {"", "", "", ""}} {
		if sum := Sum(l...); sum != 0 {
			t.Errorf("Sum(%q) = %08X, want 0", l, sum)
		}
	}
}

// P2.1: of many texts it is the one of all bytes, in their order.
func TestSumOfMany(t *testing.T) {
	if sum := Sum("123", "", "4567", "89"); sum != 0xE3069283 {
		t.Errorf("the sum of 123, 4567, 89 = %08X, want E3069283", sum)
	}
	if sum := Sum("", "123456789"); sum != 0xE3069283 {
		t.Errorf("the sum of none and 123456789 = %08X, want E3069283", sum)
	}
	if Sum("a", "b") == Sum("b", "a") || Sum("a", "b") != Sum("ab") {
		t.Error("the order of texts doesn't count as it should")
	}
	l := texts()
	all := strings.Join(l, "")
	same(t, "Sum", all, Sum(l...), slow(all))
}

// P2.1: any sum is gone on with, one that no bytes were told for, too.
func TestOn(t *testing.T) {
	for _, sum := range edges {
		if got := On(sum, ""); got != sum {
			t.Errorf("On(%08X, \"\") = %08X", sum, got)
		}
		for _, s := range texts() {
			same(t, "On", s, On(sum, s), ^moved(^sum, s))
		}
	}
}

// P2.1: the four bytes, the lowest first.
func TestFour(t *testing.T) {
	for _, k := range []struct {
		sum  uint32
		four string
	}{
		{0, "\x00\x00\x00\x00"},
		{1, "\x01\x00\x00\x00"},
		{0x80, "\x80\x00\x00\x00"},
		{0x100, "\x00\x01\x00\x00"},
		{0x8000, "\x00\x80\x00\x00"},
		{0x800000, "\x00\x00\x80\x00"},
		{0x80000000, "\x00\x00\x00\x80"},
		{0x04030201, "\x01\x02\x03\x04"},
		{0xE3069283, "\x83\x92\x06\xe3"},
		{0xFFFFFFFE, "\xfe\xff\xff\xff"},
		{math.MaxUint32, "\xff\xff\xff\xff"},
	} {
		if s := Four(k.sum); s != k.four {
			t.Errorf("Four(%08X) = %q, want %q", k.sum, s, k.four)
		}
	}
}

// P2.1: what is handed in stays, its spare room too, and nothing is kept from call to call.
func TestNothingChanged(t *testing.T) {
	l := []string{"12345", "6789", "spare"}
	for range 3 {
		if sum := Sum(l[:2]...); sum != 0xE3069283 {
			t.Errorf("Sum = %08X, want E3069283", sum)
		}
		if sum := On(7, "x"); sum != ^moved(^uint32(7), "x") {
			t.Errorf("On = %08X", sum)
		}
	}
	if !slices.Equal(l, []string{"12345", "6789", "spare"}) {
		t.Errorf("the texts are %q", l)
	}
}

// P2.2: in whatever two or three parts, and byte by byte, it is the same.
func TestParts(t *testing.T) {
	for _, s := range texts() {
		if len(s) > 300 {
			continue
		}
		want := Sum(s)
		for i := range len(s) + 1 {
			same(t, "Sum in two", s, Sum(s[:i], s[i:]), want)
			same(t, "On behind Sum", s, On(Sum(s[:i]), s[i:]), want)
			j := i + (len(s)-i)/2
			same(t, "Sum in three", s, Sum(s[:i], s[i:j], s[j:]), want)
			same(t, "On behind On", s, On(On(Sum(s[:i]), s[i:j]), s[j:]), want)
		}
		var bytes []string
		sum := Sum()
		for i := range len(s) {
			bytes = append(bytes, s[i:i+1])
			sum = On(sum, s[i:i+1])
		}
		same(t, "Sum of bytes", s, Sum(bytes...), want)
		same(t, "On, byte by byte", s, sum, want)
	}
}

// differ: s with the bits of the burst turned, the first one at the place of the bit at (a byte's lowest bit first).
func differ(s string, at int, burst uint32) string {
	l := []byte(s)
	for i := range 32 {
		if burst>>i&1 == 1 {
			l[(at+i)/8] ^= 1 << ((at + i) % 8)
		}
	}
	return string(l)
}

// P2.2: texts that differ within 32 bits have unlike sums: all differences of up to 10 bits, and many of up to 32, at each bit.
func TestUnlike(t *testing.T) {
	r := rand.New(rand.NewSource(3))
	var bursts []uint32
	for b := uint32(1); b < 1<<10; b += 2 {
		bursts = append(bursts, b)
	}
	for width := 10; width < 32; width++ {
		top := uint32(1) << width
		bursts = append(bursts, top+1, top+top-1)
		for range 8 {
			bursts = append(bursts, top+r.Uint32()%top|1)
		}
	}
	// The divisor's own bits, which a sum is blind to as soon as there are 33 of them.
	bursts = append(bursts, 0x82F63B78>>3, 0x82F63B78|1, 0x1EDC6F41, math.MaxUint32)
	for _, n := range []int{1, 2, 3, 4, 5, 9, 40, 64} {
		s := text(r, n)
		sum := Sum(s)
		for at := range 8 * n {
			for _, b := range bursts {
				if at+bits.Len32(b) > 8*n {
					continue
				}
				if d := differ(s, at, b); d == s || Sum(d) == sum {
					t.Fatalf("%q and %q have the sum %08X", s, d, sum)
				}
			}
		}
	}
}

// What P2.2 leaves open: a difference within 33 bits may go unseen, so no other sum is meant.
func TestBlindBehind(t *testing.T) {
	// One bit, and just behind it what is xored in when it goes out: these cancel.
	s := "\x01\x00\x00\x00\x00"
	back := differ(s, 1, 0x82F63B78)
	if Sum(back) != Sum("\x00\x00\x00\x00\x00") {
		t.Errorf("the sums of %q and five noughts are unlike", back)
	}
}
