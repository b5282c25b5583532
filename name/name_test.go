package name

import (
	"fmt"
	"math"
	"math/rand"
	"regexp"
	"slices"
	"strconv"
	"strings"
	"testing"

	"wagoner/api"
)

// form: of the names that have an offset.
var form = regexp.MustCompile(`\A[st][0-9]{13}\z`)

// greatest: what 13 digits come to at most.
const greatest = 9999999999999

// kinds: the calls that tell names of offsets, by the first byte of these.
var kinds = map[byte]func(int) string{'s': Seg, 't': Snap}

// offsets: at the edges, around all powers of 2 and 10, with each digit at each place, and others; rising.
func offsets() []int {
	l := []int{0, 1, 9, 10, 42, api.MaxOffset - 1, api.MaxOffset}
	for n := 1; n <= api.MaxOffset; n *= 2 {
		l = append(l, n-1, n, n+1)
	}
	for n := 1; n <= api.MaxOffset; n *= 10 {
		for digit := range 10 {
			l = append(l, digit*n, digit*n+1, digit*n-1)
		}
	}
	for n := range 2500 {
		l = append(l, n, api.MaxOffset-n)
	}
	r := rand.New(rand.NewSource(7))
	for range 5000 {
		l = append(l, r.Intn(api.MaxOffset+1))
	}
	l = slices.DeleteFunc(l, func(at int) bool { return at < 0 || at > api.MaxOffset })
	slices.Sort(l)
	return slices.Compact(l)
}

// noOffsets: numbers that are none.
func noOffsets() []int {
	return []int{
		api.MaxOffset + 1, api.MaxOffset + 2, 1<<40 + 1<<20, 1 << 41, 1999999999999, 1<<63 - 1<<40,
		greatest - 1, greatest, greatest + 1, greatest + 2, 10*greatest + 9, math.MaxInt - 1, math.MaxInt,
		-1, -2, -9, -10, -42, -api.MaxOffset, -api.MaxOffset - 1, -greatest, math.MinInt + 1, math.MinInt,
		math.MinInt32, math.MinInt32 - 1,
	}
}

// word: a name by the chapter's words, of any number of at most 13 digits.
func word(first byte, n int) string {
	return fmt.Sprintf("%c%013d", first, n)
}

// none fails the test unless the text is no name.
func none(t *testing.T, s string) {
	t.Helper()
	if kind, at := Kind(s); kind != 0 || at != 0 {
		t.Errorf("Kind(%.40q) (%d bytes) = %d, %d, want 0, 0", s, len(s), kind, at)
	}
}

// is fails the test unless the text is a name of that kind and offset.
func is(t *testing.T, s string, kind byte, at int) {
	t.Helper()
	if k, n := Kind(s); k != kind || n != at {
		t.Errorf("Kind(%q) = %d, %d, want %d, %d", s, k, n, kind, at)
	}
}

// with: s with that byte at that place.
func with(s string, at int, b byte) string {
	l := []byte(s)
	l[at] = b
	return string(l)
}

// P7.1: names, digit by digit.
func TestNames(t *testing.T) {
	for _, c := range []struct {
		at     int
		digits string
	}{
		{0, "0000000000000"},
		{1, "0000000000001"},
		{9, "0000000000009"},
		{10, "0000000000010"},
		{42, "0000000000042"},
		{99, "0000000000099"},
		{100, "0000000000100"},
		{1234567890, "0001234567890"},
		{987654321098, "0987654321098"},
		{999999999999, "0999999999999"},
		{1000000000000, "1000000000000"},
		{1099511627775, "1099511627775"},
		{api.MaxOffset, "1099511627776"},
	} {
		if s := Seg(c.at); s != "s"+c.digits {
			t.Errorf("Seg(%d) = %q, want s%s", c.at, s, c.digits)
		}
		if s := Snap(c.at); s != "t"+c.digits {
			t.Errorf("Snap(%d) = %q, want t%s", c.at, s, c.digits)
		}
		is(t, "s"+c.digits, 's', c.at)
		is(t, "t"+c.digits, 't', c.at)
	}
}

// P7.1: names of many offsets, by the chapter's words; each may be a file's.
func TestNamesMany(t *testing.T) {
	for first, call := range kinds {
		for _, at := range offsets() {
			s := call(at)
			if s != word(first, at) {
				t.Errorf("%c of %d = %q, want %q", first, at, s, word(first, at))
			}
			if len(s) > api.MaxName {
				t.Errorf("%q has %d bytes", s, len(s))
			}
		}
	}
}

// P7.1: what is no offset has no name.
func TestNamesWrong(t *testing.T) {
	for first, call := range kinds {
		for _, at := range noOffsets() {
			if s := call(at); s != "" {
				t.Errorf("%c of %d = %q, want none", first, at, s)
			}
		}
	}
}

// P7.1: the manifests' names.
func TestManifests(t *testing.T) {
	is(t, "m", 'm', 0)
	is(t, "n", 'n', 0)
	for _, first := range []string{"m", "n"} {
		for _, more := range []string{"m", "n", "0", " ", "\x00", "\n", "mn", "0000000000000", "0000000000042", "000000000000", "00000000000000", strings.Repeat("m", 1000)} {
			none(t, first+more)
		}
		for b := range 256 {
			none(t, first+string([]byte{byte(b)}))
			none(t, string([]byte{byte(b)})+first)
		}
	}
}

// P7.1: no bytes, and one byte.
func TestShort(t *testing.T) {
	none(t, "")
	for b := range 256 {
		s := string([]byte{byte(b)})
		if s != "m" && s != "n" {
			none(t, s)
		}
	}
}

// P7.1: a name has 13 digits, not fewer, not more.
func TestLengths(t *testing.T) {
	for first := range kinds {
		for _, digit := range []string{"0", "1"} {
			for n := range 40 {
				s := string(first) + strings.Repeat(digit, n)
				switch {
				case n != 13:
					none(t, s)
				case digit == "0":
					is(t, s, first, 0)
				default:
					// 13 times 1 is more than MaxOffset.
					none(t, s)
				}
			}
		}
		for _, at := range []int{0, 1, 42, api.MaxOffset} {
			s := word(first, at)
			for _, more := range []string{"0", "9", " ", "\x00", "\n", "x", "s", s} {
				none(t, s+more)
				none(t, more+s)
			}
			none(t, s[1:])
			none(t, s[:13])
			none(t, s[:1])
			none(t, s[:1]+s[2:])
		}
		for _, n := range []int{100, 255, 256, 257, 269, 270, 1000, 65536, 65550, 1 << 20} {
			none(t, string(first)+strings.Repeat("0", n))
			none(t, string(first)+strings.Repeat("0", n)+"42")
			none(t, strings.Repeat(string(first), n))
		}
	}
}

// P7.1: each byte at each place of the digits.
func TestDigits(t *testing.T) {
	for first := range kinds {
		for _, at := range []int{0, 42, 123456789012} {
			s := word(first, at)
			unit := 1
			for place := 13; place >= 1; place-- {
				for b := range 256 {
					got := with(s, place, byte(b))
					if b < '0' || b > '9' {
						none(t, got)
						continue
					}
					n := at + (b-int(s[place]))*unit
					if n > api.MaxOffset {
						none(t, got)
					} else {
						is(t, got, first, n)
					}
				}
				unit *= 10
			}
		}
	}
}

// P7.1: signs, blanks, and other forms of numbers are no digits.
func TestNoDigits(t *testing.T) {
	for first := range kinds {
		for _, digits := range []string{
			"+000000000042", "-000000000042", "-000000000000", "000000-000042", "0000000000-42", "000000000042+", "000000000042-",
			" 000000000042", "000000 000042", "000000000042 ", "           42", "42           ", "             ",
			"\t000000000042", "000000000042\n", "000000000042\x00", "\x00\x00\x00\x00\x00\x00\x00\x00\x00\x00\x00\x00\x00",
			"0x00000000042", "0b00000000001", "0o00000000007", "1e00000000001", "000000000042.", "0000000000.42", "1_00000000000", "0000000000_42",
			"00000000000ab", "00000000000AF", "000000000000/", "000000000000:", "/000000000000", ":000000000000",
			"00000000000\u0664", "0000000000\uff14", "\xff\xff\xff\xff\xff\xff\xff\xff\xff\xff\xff\xff\xff",
		} {
			if len(digits) != 13 {
				t.Errorf("%q has %d bytes, want 13", digits, len(digits))
			}
			none(t, string(first)+digits)
		}
		// 13 digits, of more bytes than one.
		none(t, string(first)+strings.Repeat("\u0660", 13))
	}
}

// P7.1: digits that come to more than MaxOffset.
func TestTooGreat(t *testing.T) {
	for first := range kinds {
		is(t, word(first, api.MaxOffset-1), first, api.MaxOffset-1)
		is(t, word(first, api.MaxOffset), first, api.MaxOffset)
		for _, n := range []int{api.MaxOffset + 1, api.MaxOffset + 2, 1100000000000, 1999999999999, 2000000000000, 1 << 41, 1 << 42, 9000000000000, greatest - 1, greatest} {
			none(t, word(first, n))
		}
	}
}

// P7.1: another first byte ahead of an offset's digits.
func TestFirst(t *testing.T) {
	for _, at := range []int{0, 1, 42, api.MaxOffset} {
		digits := word('s', at)[1:]
		for b := range 256 {
			s := string([]byte{byte(b)}) + digits
			if b == 's' || b == 't' {
				is(t, s, byte(b), at)
			} else {
				none(t, s)
			}
		}
	}
}

// kindOf: what the chapter's words say of a text.
func kindOf(s string) (byte, int) {
	if s == "m" || s == "n" {
		return s[0], 0
	}
	if !form.MatchString(s) {
		return 0, 0
	}
	at, err := strconv.Atoi(s[1:])
	if err != nil || at > api.MaxOffset {
		return 0, 0
	}
	return s[0], at
}

// P7.1: texts of any bytes, near names and far from them.
func TestAnyBytes(t *testing.T) {
	r := rand.New(rand.NewSource(77))
	told := map[byte]int{}
	for _, some := range []string{"0123456789", "01", "019", "0123456789+-", "0 ", "st01", "mn", "\x00/0:9\xff"} {
		for n := range 40000 {
			size := 14
			if n%4 == 0 {
				size = r.Intn(40)
			}
			l := make([]byte, size)
			for i := range l {
				l[i] = some[r.Intn(len(some))]
			}
			if size > 0 && n%8 != 0 {
				l[0] = "st"[n%2]
			}
			if size > 1 && n%3 == 0 {
				l[1] = '0'
			}
			s := string(l)
			kind, at := kindOf(s)
			is(t, s, kind, at)
			told[kind]++
		}
	}
	for _, kind := range []byte{0, 'm', 'n', 's', 't'} {
		if told[kind] < 10 {
			t.Errorf("only %d texts of the kind %d", told[kind], kind)
		}
	}
}

// P7.2: there and back, from offsets.
func TestThereAndBack(t *testing.T) {
	for first, call := range kinds {
		for _, at := range offsets() {
			is(t, call(at), first, at)
		}
	}
}

// P7.2: there and back, from names; and what no call tells is no name.
func TestBackAndThere(t *testing.T) {
	r := rand.New(rand.NewSource(777))
	for first, call := range kinds {
		for range 20000 {
			n := r.Intn(greatest + 1)
			if r.Intn(2) == 0 {
				n = r.Intn(api.MaxOffset + 1)
			}
			s := word(first, n)
			kind, at := Kind(s)
			switch {
			case n > api.MaxOffset:
				none(t, s)
			case kind != first || call(at) != s:
				t.Errorf("Kind(%q) = %d, %d, whose name is %q", s, kind, at, call(at))
			}
		}
	}
}

// P7.2: names rise as offsets do; and a segment's stands ahead of each snapshot's.
func TestRise(t *testing.T) {
	l := offsets()
	for first, call := range kinds {
		for i := 1; i < len(l); i++ {
			if a, b := call(l[i-1]), call(l[i]); a >= b {
				t.Errorf("%c of %d is %q, of %d it is %q", first, l[i-1], a, l[i], b)
			}
		}
		r := rand.New(rand.NewSource(int64(first)))
		for range 20000 {
			a, b := r.Intn(api.MaxOffset+1), r.Intn(api.MaxOffset+1)
			if (a < b) != (call(a) < call(b)) || (a == b) != (call(a) == call(b)) {
				t.Errorf("%c of %d is %q, of %d it is %q", first, a, call(a), b, call(b))
			}
		}
	}
	if Seg(api.MaxOffset) >= Snap(0) {
		t.Errorf("%q isn't ahead of %q", Seg(api.MaxOffset), Snap(0))
	}
}
