package frame

import (
	"encoding/binary"
	"hash/crc32"
	"math"
	"math/rand"
	"slices"
	"strings"
	"testing"

	"wagoner/api"
)

// ends: places that are within no text.
var ends = []int{-1, -2, -9, -1 << 31, math.MinInt + 1, math.MinInt, 1 << 31, math.MaxInt - 8, math.MaxInt - 1, math.MaxInt}

// laid: a frame by the chapter's words: these bytes as the number, and the body; its sum turned by turn.
func laid(number, body string, turn uint32) string {
	sum := crc32.Checksum([]byte(number+body), crc32.MakeTable(crc32.Castagnoli)) ^ turn
	return number + string(binary.LittleEndian.AppendUint32(nil, sum)) + body
}

// number: the bytes of n.
func number(n int) string {
	return string(binary.AppendUvarint(nil, uint64(n)))
}

// whole: the frame of a body, by the chapter's words.
func whole(body string) string {
	return laid(number(len(body)), body, 0)
}

// text: so many bytes of all kinds.
func text(n int) string {
	l := make([]byte, n)
	rand.New(rand.NewSource(int64(n))).Read(l)
	return string(l)
}

// bodies: of all lengths at the edges, of bytes of all kinds.
func bodies() []string {
	l := []string{"a", "\x00", "\xff", "\x80", "ab", "\x00\x00\x00", whole("within"), strings.Repeat("\x80", 127), strings.Repeat("\xff", api.MaxBody)}
	for _, n := range []int{1, 2, 3, 4, 5, 8, 9, 63, 64, 65, 126, 127, 128, 129, 255, 256, 257, 16383, 16384, 16385, api.MaxBody - 1, api.MaxBody} {
		l = append(l, text(n))
	}
	return l
}

// short: a text, for what a failed test tells.
func short(s string) string {
	if len(s) > 24 {
		return s[:24] + ".."
	}
	return s
}

// take fails the test unless Next tells that body and place.
func take(t *testing.T, s string, at int, body string, end int) {
	t.Helper()
	if got, next, err := Next(s, at); got != body || next != end || err != api.OK {
		t.Errorf("Next(%q, %d) = %q (%d bytes), %d, %d, want %q, %d, 0", short(s), at, short(got), len(got), next, err, short(body), end)
	}
}

// refuse fails the test unless Next tells just that error, with whatever ahead, and, but for ErrShort, with whatever behind.
func refuse(t *testing.T, s string, want api.Errno) {
	t.Helper()
	behind := []string{""}
	if want != api.ErrShort {
		behind = append(behind, "\x00", "\x80", "\xff\xff\xff\xff\xff\xff\xff\xff\xff", whole("a"))
	}
	for _, b := range behind {
		for _, ahead := range []string{"", "\x80", "x\xff", whole("a")} {
			refuseAt(t, ahead+s+b, len(ahead), want)
		}
	}
}

// refuseAt fails the test unless Next tells just that error there.
func refuseAt(t *testing.T, s string, at int, want api.Errno) {
	t.Helper()
	if body, next, err := Next(s, at); body != "" || next != 0 || err != want {
		t.Errorf("Next(%q, %d) = %q, %d, %d, want none, 0, %d", short(s), at, short(body), next, err, want)
	}
}

// all fails the test unless All tells these bodies, that place and that error.
func all(t *testing.T, s string, bodies []string, end int, want api.Errno) {
	t.Helper()
	l, at, err := All(s)
	if !slices.Equal(l, bodies) || at != end || err != want {
		t.Errorf("All(%q) (%d bytes) = %d bodies, %d, %d, want %d bodies, %d, %d", short(s), len(s), len(l), at, err, len(bodies), end, want)
	}
}

// P3.1: frames, byte by byte.
func TestPut(t *testing.T) {
	for _, b := range bodies() {
		if s, err := Put(b); s != whole(b) || err != api.OK {
			t.Errorf("Put(%q) (%d bytes) = %q, %d, want %q, 0", short(b), len(b), short(s), err, short(whole(b)))
		}
	}
	for b := range 256 {
		body := string([]byte{byte(b)})
		if s, err := Put(body); s != whole(body) || err != api.OK {
			t.Errorf("Put(%q) = %q, %d", body, s, err)
		}
	}
}

// P3.1: the frame of a, the chapter's example.
func TestPutExample(t *testing.T) {
	if s, err := Put("a"); s != "\x01\xc4\xff\x6e\x71a" || err != api.OK {
		t.Errorf("Put(a) = %q, %d", s, err)
	}
}

// P3.1: bodies of no bytes, and of too many.
func TestPutWrong(t *testing.T) {
	for _, n := range []int{0, api.MaxBody + 1, api.MaxBody + 2, 2 * api.MaxBody, 1 << 21, 1<<21 + 1} {
		if s, err := Put(strings.Repeat("a", n)); s != "" || err != api.ErrLong {
			t.Errorf("Put of %d bytes = %q, %d, want none, %d", n, short(s), err, api.ErrLong)
		}
	}
}

// P3.1: how many bytes a frame has.
func TestSize(t *testing.T) {
	for n, want := range map[int]int{
		0: 0, 1: 6, 2: 7, 127: 132, 128: 134, 16383: 16389, 16384: 16391,
		api.MaxBody - 1: api.MaxBody + 6, api.MaxBody: api.MaxBody + 7, api.MaxBody + 1: 0, 2 * api.MaxBody: 0,
	} {
		if size := Size(n); size != want {
			t.Errorf("Size(%d) = %d, want %d", n, size, want)
		}
	}
	for _, n := range ends {
		if size := Size(n); size != 0 {
			t.Errorf("Size(%d) = %d, want 0", n, size)
		}
	}
	for n := 1; n <= api.MaxBody; n += 1 + n/50 {
		if s, _ := Put(strings.Repeat("b", n)); Size(n) != len(s) {
			t.Errorf("Size(%d) = %d, but Put has %d bytes", n, Size(n), len(s))
		}
	}
}

// P3.1: what stands there is told, with the place behind it, whatever stands ahead and behind.
func TestNext(t *testing.T) {
	for _, b := range bodies() {
		s := whole(b)
		for _, ahead := range []string{"", "\x00", "\x80", "text", whole("a")} {
			for _, behind := range []string{"", "\x00", "\xff", "text", whole("a")} {
				take(t, ahead+s+behind, len(ahead), b, len(ahead)+len(s))
			}
		}
	}
	// A frame within a body is one, too.
	s := whole("x" + whole("inner"))
	take(t, s, 6, "inner", len(s))
}

// P3.1: nothing stands there: the place is below 0, or not within the text.
func TestNextAtWrongPlace(t *testing.T) {
	for _, s := range []string{"", "\x00", "\xff", "text", whole("a"), whole("a") + whole("b"), strings.Repeat("\x80", 20)} {
		for _, at := range append([]int{len(s), len(s) + 1, len(s) + 2, len(s) + 9}, ends...) {
			refuseAt(t, s, at, api.ErrShort)
		}
	}
}

// P3.1: up to 8 bytes of 128 and more that end may go on; 9 are no number.
func TestNextNumberCut(t *testing.T) {
	for n := range 20 {
		want := api.ErrShort
		if n > 8 {
			want = api.ErrForm
		}
		for _, b := range []string{"\x80", "\x81", "\xfe", "\xff"} {
			if want == api.ErrShort {
				refuse(t, strings.Repeat(b, n), want)
				continue
			}
			refuseAt(t, strings.Repeat(b, n), 0, want)
			refuseAt(t, "x"+strings.Repeat(b, n), 1, want)
		}
	}
	// All 8 may be of any kind, and so may what stands ahead.
	refuse(t, "\x80\xff\x81\xfe\xc0\xd0\xe0\xf0", api.ErrShort)
	refuseAt(t, "\x80\xff\x81\xfe\xc0\xd0\xe0\xf0\x80", 0, api.ErrForm)
	refuseAt(t, "\x80\xff\x81\xfe\xc0\xd0\xe0\xf0\x80", 1, api.ErrShort)
	// One that ends it makes it a number, though one that is too great, or longer than it need be.
	for n := range 8 {
		refuseAt(t, strings.Repeat("\xff", n+3)+"\x01", 0, api.ErrForm)
		refuseAt(t, strings.Repeat("\x80", n+1)+"\x00", 0, api.ErrForm)
	}
}

// P3.1: numbers that aren't from 1 to MaxBody, or aren't in their fewest bytes, whatever stands behind them.
func TestNextForm(t *testing.T) {
	for _, n := range []int{0, api.MaxBody + 1, api.MaxBody + 2, 1<<17 - 1, 1 << 17, 1<<21 - 1, 1 << 21, 1<<31 - 1, 1 << 31, 1<<32 + 1, 1<<40 + 1, 1 << 62, math.MaxInt - 11, math.MaxInt} {
		refuse(t, number(n), api.ErrForm)
		refuse(t, laid(number(n), "", 0), api.ErrForm)
		refuse(t, laid(number(n), "a", 0), api.ErrForm)
	}
	// A whole frame but for its number: of a body of one byte more, and of none.
	refuse(t, laid(number(api.MaxBody+1), text(api.MaxBody+1), 0), api.ErrForm)
	refuse(t, laid("\x00", "", 0), api.ErrForm)
	// A number that is right, but for noughts behind it.
	for _, b := range []string{"a", text(127), text(128), text(300), text(api.MaxBody)} {
		n := number(len(b))
		last := len(n) - 1
		longer := n[:last] + string([]byte{n[last] + 128})
		for range 10 {
			refuse(t, longer+"\x00", api.ErrForm)
			refuse(t, laid(longer+"\x00", b, 0), api.ErrForm)
			longer += "\x80"
		}
	}
	// Above all numbers, and of too many bytes.
	refuse(t, strings.Repeat("\xff", 9)+"\x01", api.ErrForm)
	refuse(t, strings.Repeat("\x81", 9)+"\x00", api.ErrForm)
}

// P3.1: a frame that isn't all there, wherever it is cut, even if its sum is wrong as far as it goes.
func TestNextShort(t *testing.T) {
	for _, b := range bodies() {
		if len(b) > 300 {
			continue
		}
		for _, turn := range []uint32{0, 1, math.MaxUint32} {
			s := laid(number(len(b)), b, turn)
			for cut := range len(s) {
				refuse(t, s[:cut], api.ErrShort)
			}
		}
	}
	for _, n := range []int{16384, api.MaxBody - 1, api.MaxBody} {
		s := whole(text(n))
		for _, cut := range []int{1, 2, 3, 4, 5, 6, 7, 8, 1000, n, len(s) - 2, len(s) - 1} {
			refuse(t, s[:cut], api.ErrShort)
		}
	}
}

// P3.1: a sum that isn't that: any bit of it, of the body, and of a number that stays as long as it is.
func TestNextSum(t *testing.T) {
	for _, b := range []string{"a", "\x00", text(2), text(64), text(128), text(200)} {
		for bit := range 32 {
			refuse(t, laid(number(len(b)), b, 1<<bit), api.ErrSum)
		}
		refuse(t, laid(number(len(b)), b, math.MaxUint32), api.ErrSum)
		s := []byte(whole(b))
		for i := len(number(len(b))); i < len(s); i++ {
			for bit := range 8 {
				s[i] ^= 1 << bit
				refuse(t, string(s), api.ErrSum)
				s[i] ^= 1 << bit
			}
		}
	}
	// The sum is of the number, too: that of the body alone isn't it, nor that of one body's beginning.
	alone := string(binary.LittleEndian.AppendUint32(nil, crc32.Checksum([]byte("ab"), crc32.MakeTable(crc32.Castagnoli))))
	refuse(t, "\x02"+alone+"ab", api.ErrSum)
	refuse(t, "\x01"+whole("ab")[1:], api.ErrSum)
	// Its lowest byte is the first one.
	s := []byte(whole("ab"))
	slices.Reverse(s[1:5])
	refuse(t, string(s), api.ErrSum)
}

// P3.2: the bodies in their order, the place behind the last one, and OK at the end.
func TestAll(t *testing.T) {
	all(t, "", nil, 0, api.OK)
	all(t, whole("a"), []string{"a"}, 6, api.OK)
	all(t, whole("b")+whole("a")+whole("b"), []string{"b", "a", "b"}, 18, api.OK)
	l := bodies()
	var s strings.Builder
	for _, b := range l {
		s.WriteString(whole(b))
	}
	all(t, s.String(), l, s.Len(), api.OK)
}

// P3.2: the error with which Next fails there, and what was told till there.
func TestAllFails(t *testing.T) {
	good := []string{"a", text(200), "b"}
	for n := range len(good) + 1 {
		ahead := ""
		for _, b := range good[:n] {
			ahead += whole(b)
		}
		for _, behind := range []string{"", "\x00", whole("c")} {
			bad := map[string]api.Errno{
				"\x00":                             api.ErrForm,
				laid("\x81\x00", "a", 0):           api.ErrForm,
				number(api.MaxBody + 1):            api.ErrForm,
				laid("\x01", "a", 1):               api.ErrSum,
				"\x01\x00\x00\x00\x00a":            api.ErrSum,
				strings.Repeat("\xff", 9) + "\x01": api.ErrForm,
			}
			for s, err := range bad {
				all(t, ahead+s+behind, good[:n], len(ahead), err)
			}
		}
		for _, s := range []string{"\x80", "\x05", "\x01\x00\x00\x00\x00", number(api.MaxBody), strings.Repeat("\xff", 8), whole(text(api.MaxBody))[:api.MaxBody]} {
			all(t, ahead+s, good[:n], len(ahead), api.ErrShort)
		}
	}
}

// P3.3: there and back, of one and of many.
func TestThereAndBack(t *testing.T) {
	row := ""
	var l []string
	for _, b := range bodies() {
		s, err := Put(b)
		if err != api.OK {
			t.Fatalf("Put of %d bytes fails with %d", len(b), err)
		}
		take(t, s, 0, b, len(s))
		all(t, s, []string{b}, len(s), api.OK)
		take(t, row+s, len(row), b, len(row)+len(s))
		row, l = row+s, append(l, b)
	}
	all(t, row, l, len(row), api.OK)
}

// P3.3: what is told was put in the one way there is, of whatever texts begin so.
func TestOneWay(t *testing.T) {
	r := rand.New(rand.NewSource(3))
	for range 20000 {
		s := []byte(whole(text(1+r.Intn(5))) + whole(text(1+r.Intn(200))))
		for range r.Intn(3) {
			s[r.Intn(min(len(s), 12))] = byte(r.Intn(256))
		}
		l, end, _ := All(string(s))
		back := ""
		for _, b := range l {
			f, _ := Put(b)
			back += f
		}
		if back != string(s[:end]) {
			t.Fatalf("All(%q) tells %q, which are put as %q", s, l, back)
		}
	}
}

// P3.3: of frames in a row that are cut off anywhere just the whole ones are told.
func TestCut(t *testing.T) {
	l := []string{"a", text(3), text(127), "\x80", text(128), "b", "\xff\xff", text(300)}
	s := ""
	behind := map[int]int{0: 0}
	for i, b := range l {
		s += whole(b)
		behind[len(s)] = i + 1
	}
	n, end := 0, 0
	for cut := range len(s) + 1 {
		want := api.ErrShort
		if i, between := behind[cut]; between {
			n, end, want = i, cut, api.OK
		}
		all(t, s[:cut], l[:n], end, want)
	}
}

// P3.3: the greatest frames, too, amid the number, the sum and the body.
func TestCutGreat(t *testing.T) {
	l := []string{text(api.MaxBody), text(api.MaxBody)}
	one := whole(l[0])
	s := one + whole(l[1])
	for _, cut := range []int{1, 2, 3, 4, 6, 7, 8, api.MaxBody, len(one) - 1} {
		all(t, s[:cut], nil, 0, api.ErrShort)
		all(t, s[:len(one)+cut], l[:1], len(one), api.ErrShort)
	}
	all(t, one, l[:1], len(one), api.OK)
	all(t, s, l, len(s), api.OK)
}

// P3.1, P3.2: the same call tells the same, and what was told stays.
func TestNothingKept(t *testing.T) {
	s := whole("one") + whole("two")
	l, _, _ := All(s)
	for range 3 {
		all(t, s, []string{"one", "two"}, len(s), api.OK)
		all(t, "\x00", nil, 0, api.ErrForm)
		take(t, s, 0, "one", 8)
	}
	if !slices.Equal(l, []string{"one", "two"}) {
		t.Errorf("what was told is %q now", l)
	}
	l[0] = "other"
	all(t, s, []string{"one", "two"}, len(s), api.OK)
}
