package varint

import (
	"math"
	"strings"
	"testing"
)

// known: numbers and their bytes, worked out by hand.
var known = []struct {
	n int
	s string
}{
	{0, "\x00"},
	{1, "\x01"},
	{127, "\x7f"},
	{128, "\x80\x01"},
	{129, "\x81\x01"},
	{255, "\xff\x01"},
	{256, "\x80\x02"},
	{300, "\xac\x02"},
	{1<<14 - 1, "\xff\x7f"},
	{1 << 14, "\x80\x80\x01"},
	{1 << 40, "\x80\x80\x80\x80\x80\x20"},
	{1<<56 - 1, "\xff\xff\xff\xff\xff\xff\xff\x7f"},
	{1 << 56, "\x80\x80\x80\x80\x80\x80\x80\x80\x01"},
	{1 << 62, "\x80\x80\x80\x80\x80\x80\x80\x80\x40"},
	{math.MaxInt - 1, "\xfe\xff\xff\xff\xff\xff\xff\xff\x7f"},
	{math.MaxInt, "\xff\xff\xff\xff\xff\xff\xff\xff\x7f"},
}

// numbers: small ones, and those about each power of 2, rising.
func numbers() []int {
	var l []int
	for n := range 1<<10 - 2 {
		l = append(l, n)
	}
	for b := 10; b < 63; b++ {
		for d := -2; d <= 2; d++ {
			l = append(l, 1<<b+d)
		}
	}
	return append(l, math.MaxInt-2, math.MaxInt-1, math.MaxInt)
}

// refuse fails the test unless Read tells noughts and false.
func refuse(t *testing.T, s string, at int) {
	t.Helper()
	if n, next, ok := Read(s, at); n != 0 || next != 0 || ok {
		t.Errorf("Read(%q, %d) = %d, %d, %v, want 0, 0, false", s, at, n, next, ok)
	}
}

// take fails the test unless Read tells that number and place.
func take(t *testing.T, s string, at, wantN, wantNext int) {
	t.Helper()
	if n, next, ok := Read(s, at); n != wantN || next != wantNext || !ok {
		t.Errorf("Read(%q, %d) = %d, %d, %v, want %d, %d, true", s, at, n, next, ok, wantN, wantNext)
	}
}

// P1.1: the bytes, and how many.
func TestPutAndLen(t *testing.T) {
	for _, k := range known {
		if s := Put(k.n); s != k.s {
			t.Errorf("Put(%d) = %q, want %q", k.n, s, k.s)
		}
		if l := Len(k.n); l != len(k.s) {
			t.Errorf("Len(%d) = %d, want %d", k.n, l, len(k.s))
		}
	}
	for _, n := range numbers() {
		if Len(n) != len(Put(n)) {
			t.Errorf("Len(%d) = %d, but Put has %d bytes", n, Len(n), len(Put(n)))
		}
	}
}

// P1.1: numbers below 0 have no bytes.
func TestBelowNought(t *testing.T) {
	for _, n := range []int{-1, -2, -127, -128, -129, -1 << 31, -1 << 62, math.MinInt + 1, math.MinInt} {
		if s := Put(n); s != "" {
			t.Errorf("Put(%d) = %q, want none", n, s)
		}
		if l := Len(n); l != 0 {
			t.Errorf("Len(%d) = %d, want 0", n, l)
		}
	}
}

// P1.1: what stands there is read, with the place behind it.
func TestRead(t *testing.T) {
	for _, k := range known {
		take(t, k.s, 0, k.n, len(k.s))
		take(t, "x\xff"+k.s+"\xff", 2, k.n, 2+len(k.s))
	}
	// From any byte of a number on there may stand another one.
	take(t, "\xac\x02", 1, 2, 2)
}

// P1.1: a place that is below 0, or not within the text.
func TestReadAtWrongPlace(t *testing.T) {
	for _, s := range []string{"", "\x00", "\xac\x02", "abcdef"} {
		for _, at := range []int{-1, -2, math.MinInt, len(s), len(s) + 1, len(s) + 9, math.MaxInt} {
			refuse(t, s, at)
		}
	}
}

// P1.1: bytes that end too early.
func TestReadShort(t *testing.T) {
	for _, k := range known {
		for cut := range len(k.s) {
			refuse(t, k.s[:cut], 0)
			refuse(t, "x"+k.s[:cut], 1)
		}
	}
	for n := range 20 {
		refuse(t, strings.Repeat("\xff", n), 0)
		refuse(t, strings.Repeat("\x80", n), 0)
	}
}

// P1.1: bytes that are not the shortest.
func TestReadLong(t *testing.T) {
	for _, k := range known {
		last := len(k.s) - 1
		longer := k.s[:last] + string([]byte{k.s[last] + 128})
		for range 12 {
			refuse(t, longer+"\x00", 0)
			refuse(t, "x"+longer+"\x00y", 1)
			longer += "\x80"
		}
	}
}

// P1.1: bytes of a number above 2^63 - 1.
func TestReadAbove(t *testing.T) {
	for last := 1; last < 256; last++ {
		end := string([]byte{byte(last)})
		refuse(t, strings.Repeat("\xff", 9)+end, 0)
		refuse(t, strings.Repeat("\x80", 9)+end, 0)
		refuse(t, "x"+strings.Repeat("\x80", 9)+end+"\x01", 1)
	}
	refuse(t, strings.Repeat("\x80", 30)+"\x01", 0)
}

// P1.2: what is put is read, whatever stands ahead and behind.
func TestThereAndBack(t *testing.T) {
	others := []string{"", "\x00", "\x01", "\x7f", "\x80", "\xff", "text", "\xff\xff\xff\xff\xff\xff\xff\xff\xff"}
	for _, n := range numbers() {
		s := Put(n)
		for _, ahead := range others {
			for _, behind := range others {
				take(t, ahead+s+behind, len(ahead), n, len(ahead)+len(s))
			}
		}
	}
}

// P1.2: numbers in a row are read one behind the other.
func TestRow(t *testing.T) {
	var s strings.Builder
	for _, n := range numbers() {
		s.WriteString(Put(n))
	}
	at := 0
	for _, want := range numbers() {
		n, next, ok := Read(s.String(), at)
		if !ok || n != want {
			t.Fatalf("Read at %d = %d, %v, want %d, true", at, n, ok, want)
		}
		at = next
	}
	if at != s.Len() {
		t.Errorf("the last one ends at %d, want %d", at, s.Len())
	}
}

// P1.2: what is read was put in the one way there is, of all texts of at most two bytes, and of longer ones of bytes at the edges.
func TestOneWay(t *testing.T) {
	var all []byte
	for b := range 256 {
		all = append(all, byte(b))
	}
	texts(all, 2, func(s string) { oneWay(t, s) })
	texts([]byte{0, 1, 127, 128, 255}, 7, func(s string) {
		oneWay(t, s)
		oneWay(t, "\xff\x80\xff\x80"+s)
	})
}

// oneWay fails the test if what Read takes from s isn't just what Put lays.
func oneWay(t *testing.T, s string) {
	t.Helper()
	n, next, ok := Read(s, 0)
	switch {
	case !ok:
		refuse(t, s, 0)
	case n < 0, next < 1, next > len(s):
		t.Fatalf("Read(%q, 0) = %d, %d, true", s, n, next)
	case Put(n) != s[:next]:
		t.Errorf("Read(%q, 0) = %d, which is put as %q", s, n, Put(n))
	}
}

// texts hands each text of at most that many of these bytes to see.
func texts(of []byte, most int, see func(string)) {
	level := []string{""}
	see("")
	for range most {
		var longer []string
		for _, s := range level {
			for _, b := range of {
				longer = append(longer, s+string([]byte{b}))
				see(longer[len(longer)-1])
			}
		}
		level = longer
	}
}

// P1.2: lengths rise with numbers, from 1 to 9, each by one at a power of 2^7.
func TestLengthsRise(t *testing.T) {
	was := 1
	for _, n := range numbers() {
		if Len(n) < was {
			t.Errorf("Len(%d) = %d, but a lesser number has %d", n, Len(n), was)
		}
		was = Len(n)
	}
	for bytes := 1; bytes < 9; bytes++ {
		n := 1 << (7 * bytes)
		if Len(n-1) != bytes || Len(n) != bytes+1 {
			t.Errorf("Len(%d) = %d, Len(%d) = %d, want %d, %d", n-1, Len(n-1), n, Len(n), bytes, bytes+1)
		}
	}
	if Len(math.MaxInt) != 9 {
		t.Errorf("Len(%d) = %d, want 9", math.MaxInt, Len(math.MaxInt))
	}
}
