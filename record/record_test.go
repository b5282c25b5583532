package record

import (
	"encoding/binary"
	"hash/crc32"
	"math"
	"math/rand"
	"slices"
	"strings"
	"testing"

	"wagoner/api"
)

// inside: offsets and times that may be: the ends, those beside them, and where a number's bytes become one more.
var inside = []int{0, 1, 2, 127, 128, 300, 1<<14 - 1, 1 << 14, 1<<21 - 1, 1 << 21, 1<<28 - 1, 1 << 28, 1<<35 - 1, 1 << 35, api.MaxOffset - 1, api.MaxOffset}

// above: offsets and times that are too great, such as may stand in a body.
var above = []int{api.MaxOffset + 1, api.MaxOffset + 2, 1<<41 - 1, 1 << 41, 1<<42 - 1, 1 << 42, 1<<62 + 1, math.MaxInt - 1, math.MaxInt}

// below: offsets and times that are less than 0.
var below = []int{-1, -2, -127, -128, -1 << 31, -1 << 40, -1<<40 - 1, -1 << 62, math.MinInt + 1, math.MinInt}

// lengths: of data that may be, and of such as may not.
var (
	lengths = []int{0, 1, 2, 3, 31, 62, api.MaxPayload - 1, api.MaxPayload}
	tooLong = []int{api.MaxPayload + 1, api.MaxPayload + 2, 127, 128, 255, 256, 1000, api.MaxBody - 3, api.MaxBody + 1}
)

// number: the bytes of n.
func number(n int) string {
	return string(binary.AppendUvarint(nil, uint64(n)))
}

// longer: the bytes of n, and so many more than it needs.
func longer(n, more int) string {
	s := []byte(number(n))
	for range more {
		s[len(s)-1] += 128
		s = append(s, 0)
	}
	return string(s)
}

// laid: the frame of a body, by chapter 3; its sum turned by turn.
func laid(body string, turn uint32) string {
	n := number(len(body))
	sum := crc32.Checksum([]byte(n+body), crc32.MakeTable(crc32.Castagnoli)) ^ turn
	return n + string(binary.LittleEndian.AppendUint32(nil, sum)) + body
}

// bodyOf: a record's body, by the chapter's words.
func bodyOf(r api.Rec) string {
	return number(r.At) + number(r.Time) + r.Data
}

// whole: a record's frame, by the chapter's words.
func whole(r api.Rec) string {
	return laid(bodyOf(r), 0)
}

// row: the frames of records, one behind the other.
func row(l []api.Rec) string {
	s := ""
	for _, r := range l {
		s += whole(r)
	}
	return s
}

// text: so many bytes of all kinds.
func text(n int) string {
	l := make([]byte, n)
	rand.New(rand.NewSource(int64(n))).Read(l)
	return string(l)
}

// records: such as may be, of each offset, time and length beside each other, and of data that look like numbers or frames.
func records() []api.Rec {
	var l []api.Rec
	for _, at := range inside {
		for _, time := range inside {
			for _, n := range lengths {
				l = append(l, api.Rec{At: at, Time: time, Data: text(n)})
			}
		}
	}
	inner := whole(api.Rec{At: 3, Time: 4, Data: "inner"})
	for _, data := range []string{"\x00", "\x80", "\xff", "\x80\x00", strings.Repeat("\x80", 9), strings.Repeat("\xff", api.MaxPayload), strings.Repeat("\x00", api.MaxPayload), inner, "héé", "\xc3"} {
		l = append(l, api.Rec{At: 5, Time: 9, Data: data})
	}
	return l
}

// few: some records that are unlike.
func few() []api.Rec {
	return []api.Rec{
		{At: 5, Time: 9, Data: "ab"},
		{},
		{At: api.MaxOffset, Time: api.MaxOffset, Data: text(api.MaxPayload)},
		{At: 5, Time: 9, Data: "ab"},
		{At: 300, Time: 1, Data: ""},
		{At: 0, Time: 127, Data: "\x80"},
	}
}

// short: a text, for what a failed test tells.
func short(s string) string {
	if len(s) > 24 {
		return s[:24] + ".."
	}
	return s
}

// may fails the test unless the record may be, and is put as the chapter says.
func may(t *testing.T, r api.Rec) {
	t.Helper()
	want := whole(r)
	s, err := Put(r)
	if !Right(r) || s != want || err != api.OK || Size(r) != len(want) {
		t.Errorf("of %d, %d, %q: Right %v, Put %q, %d, Size %d, want true, %q, 0, %d", r.At, r.Time, short(r.Data), Right(r), s, err, Size(r), want, len(want))
	}
}

// mayNot fails the test unless the record may not be, with just that error.
func mayNot(t *testing.T, r api.Rec, want api.Errno) {
	t.Helper()
	s, err := Put(r)
	if Right(r) || s != "" || err != want || Size(r) != 0 {
		t.Errorf("of %d, %d, %q (%d bytes): Right %v, Put %q, %d, Size %d, want false, none, %d, 0", r.At, r.Time, short(r.Data), len(r.Data), Right(r), s, err, Size(r), want)
	}
}

// get fails the test unless Get tells just that record and error.
func get(t *testing.T, body string, want api.Rec, wantErr api.Errno) {
	t.Helper()
	if r, err := Get(body); r != want || err != wantErr {
		t.Errorf("Get(%q) (%d bytes) = %d, %d, %q, %d, want %d, %d, %q, %d", short(body), len(body), r.At, r.Time, short(r.Data), err, want.At, want.Time, short(want.Data), wantErr)
	}
}

// refuse fails the test unless Get tells just that error.
func refuse(t *testing.T, body string, want api.Errno) {
	t.Helper()
	get(t, body, api.Rec{}, want)
}

// rowFails fails the test unless Row tells just that error.
func rowFails(t *testing.T, l []api.Rec, want api.Errno) {
	t.Helper()
	if s, err := Row(l); s != "" || err != want {
		t.Errorf("Row of %d records = %q, %d, want none, %d", len(l), short(s), err, want)
	}
}

// rows fails the test unless Rows tells these records, that place and that error.
func rows(t *testing.T, s string, want []api.Rec, end int, wantErr api.Errno) {
	t.Helper()
	l, at, err := Rows(s)
	if !slices.Equal(l, want) || at != end || err != wantErr {
		t.Errorf("Rows(%q) (%d bytes) = %d records, %d, %d, want %d records, %d, %d", short(s), len(s), len(l), at, err, len(want), end, wantErr)
	}
}

// P4.1: records that may be, byte by byte.
func TestPut(t *testing.T) {
	for _, r := range records() {
		may(t, r)
	}
}

// P4.1: the record 5, 9, ab, the chapter's example, and the least and the greatest one.
func TestPutExample(t *testing.T) {
	s, err := Put(api.Rec{At: 5, Time: 9, Data: "ab"})
	if err != api.OK || len(s) != 9 || s[0] != 4 || s[5:] != "\x05\x09ab" {
		t.Errorf("Put(5, 9, ab) = %q, %d", s, err)
	}
	for _, k := range []struct {
		r    api.Rec
		size int
	}{
		{api.Rec{}, 7},
		{api.Rec{At: 5, Time: 9, Data: "ab"}, 9},
		{api.Rec{At: 300, Time: 9, Data: "ab"}, 10},
		{api.Rec{At: 5, Time: 300, Data: "ab"}, 10},
		{api.Rec{At: api.MaxOffset, Time: api.MaxOffset, Data: text(api.MaxPayload)}, 81},
	} {
		if n := Size(k.r); n != k.size {
			t.Errorf("Size(%d, %d, %q) = %d, want %d", k.r.At, k.r.Time, k.r.Data, n, k.size)
		}
	}
}

// P4.1: an offset, a time, or both out of their range, whatever the data, and data of too many bytes.
func TestPutWrong(t *testing.T) {
	for _, n := range slices.Concat(above, below) {
		for _, ok := range inside {
			mayNot(t, api.Rec{At: n, Time: ok, Data: "ab"}, api.ErrRange)
			mayNot(t, api.Rec{At: ok, Time: n, Data: "ab"}, api.ErrRange)
		}
		for _, m := range slices.Concat(above, below) {
			mayNot(t, api.Rec{At: n, Time: m}, api.ErrRange)
		}
	}
	for _, n := range tooLong {
		for _, ok := range inside {
			mayNot(t, api.Rec{At: ok, Time: 9, Data: text(n)}, api.ErrLong)
			mayNot(t, api.Rec{At: 5, Time: ok, Data: text(n)}, api.ErrLong)
		}
	}
}

// P4.1: of both errors ErrRange is the answer.
func TestPutBothWrong(t *testing.T) {
	for _, n := range slices.Concat(above, below) {
		for _, size := range tooLong {
			mayNot(t, api.Rec{At: n, Time: 9, Data: text(size)}, api.ErrRange)
			mayNot(t, api.Rec{At: 5, Time: n, Data: text(size)}, api.ErrRange)
			mayNot(t, api.Rec{At: n, Time: n, Data: text(size)}, api.ErrRange)
		}
	}
}

// P4.1: the record of a body, whatever its data begin with.
func TestGet(t *testing.T) {
	for _, r := range records() {
		get(t, bodyOf(r), r, api.OK)
	}
	get(t, "\x05\x09ab", api.Rec{At: 5, Time: 9, Data: "ab"}, api.OK)
	get(t, "\x00\x00", api.Rec{}, api.OK)
	get(t, "\xac\x02\x80\x01\x80", api.Rec{At: 300, Time: 128, Data: "\x80"}, api.OK)
}

// P4.1: a body that ends amid the first number, amid the second one, or right behind it.
func TestGetCut(t *testing.T) {
	refuse(t, "", api.ErrForm)
	for _, at := range slices.Concat(inside, above) {
		for _, time := range slices.Concat(inside, above) {
			a, b := number(at), number(time)
			for cut := range len(a) + len(b) {
				refuse(t, (a + b)[:cut], api.ErrForm)
			}
			want, err := api.Rec{At: at, Time: time}, api.OK
			if at > api.MaxOffset || time > api.MaxOffset {
				want, err = api.Rec{}, api.ErrRange
			}
			get(t, a+b, want, err)
		}
	}
}

// P4.1: numbers that aren't in their fewest bytes, or are none, the first one or the second.
func TestGetForm(t *testing.T) {
	var bad []string
	for _, n := range slices.Concat(inside, above) {
		for more := 1; more < 10; more++ {
			bad = append(bad, longer(n, more))
		}
	}
	for n := 1; n < 12; n++ {
		bad = append(bad, strings.Repeat("\xff", n), strings.Repeat("\x80", n))
	}
	bad = append(bad, strings.Repeat("\xff", 9)+"\x01", strings.Repeat("\x80", 9)+"\x01")
	for _, s := range bad {
		refuse(t, s, api.ErrForm)
		for _, n := range slices.Concat(inside, above) {
			refuse(t, number(n)+s, api.ErrForm)
		}
		// Bytes behind it don't mend it: it was wrong already, or is then.
		for _, behind := range []string{"\x00", "\x00\x00", "\x00ab", "\x00" + text(api.MaxPayload+1)} {
			if s[len(s)-1] < 128 {
				refuse(t, s+behind, api.ErrForm)
				refuse(t, "\x05"+s+behind, api.ErrForm)
			}
		}
	}
}

// P4.1: a body whose offset or time may not be, whatever its data; ErrForm is named ahead, ErrLong behind.
func TestGetRange(t *testing.T) {
	for _, n := range above {
		for _, size := range slices.Concat(lengths, tooLong) {
			for _, other := range slices.Concat(inside, above) {
				refuse(t, number(n)+number(other)+text(size), api.ErrRange)
				refuse(t, number(other)+number(n)+text(size), api.ErrRange)
			}
		}
		refuse(t, number(n), api.ErrForm)
		refuse(t, number(n)+"\x80", api.ErrForm)
		refuse(t, number(n)+"\x80\x00"+text(api.MaxPayload+1), api.ErrForm)
	}
}

// P4.1: a body whose data may not be.
func TestGetLong(t *testing.T) {
	for _, size := range tooLong {
		for _, n := range inside {
			refuse(t, number(n)+"\x09"+text(size), api.ErrLong)
			refuse(t, "\x05"+number(n)+text(size), api.ErrLong)
		}
		refuse(t, "\x80\x00\x09"+text(size), api.ErrForm)
		refuse(t, "\x05\x80\x00"+text(size), api.ErrForm)
	}
}

// P4.2: rows of no records, of one, and of many.
func TestRow(t *testing.T) {
	for _, l := range [][]api.Rec{nil, {}, {{}}, few()[:1], few()[:2], few(), records()} {
		if s, err := Row(l); s != row(l) || err != api.OK {
			t.Errorf("Row of %d records = %q, %d, want %q, 0", len(l), short(s), err, short(row(l)))
		}
	}
}

// P4.2: rows with a record that may not be, alone, first, amid, last, and with two of them.
func TestRowFails(t *testing.T) {
	ranges := api.Rec{At: api.MaxOffset + 1, Data: "ab"}
	below := api.Rec{Time: -1}
	long := api.Rec{Data: text(api.MaxPayload + 1)}
	both := api.Rec{At: -1, Data: text(api.MaxPayload + 1)}
	for place := range len(few()) + 1 {
		rowFails(t, slices.Insert(few(), place, ranges), api.ErrRange)
		rowFails(t, slices.Insert(few(), place, below), api.ErrRange)
		rowFails(t, slices.Insert(few(), place, both), api.ErrRange)
		rowFails(t, slices.Insert(few(), place, long), api.ErrLong)
		// The first one's error is told, next to the other and far from it.
		for ahead := range place + 1 {
			rowFails(t, slices.Insert(slices.Insert(few(), place, ranges), ahead, long), api.ErrLong)
			rowFails(t, slices.Insert(slices.Insert(few(), place, long), ahead, both), api.ErrRange)
		}
	}
	rowFails(t, []api.Rec{ranges}, api.ErrRange)
	rowFails(t, []api.Rec{long}, api.ErrLong)
}

// P4.2: the records in their order, the place behind the last one, and OK at the end.
func TestRows(t *testing.T) {
	rows(t, "", nil, 0, api.OK)
	for n := range len(few()) + 1 {
		l := few()[:n]
		rows(t, row(l), l, len(row(l)), api.OK)
	}
	rows(t, row(records()), records(), len(row(records())), api.OK)
}

// P4.2: the first error there, and what was told till there, whatever stands behind.
func TestRowsFails(t *testing.T) {
	bad := map[string]api.Errno{
		"\x00":                          api.ErrForm, // no body has no bytes
		"\x80\x00":                      api.ErrForm,
		number(api.MaxBody + 1):         api.ErrForm,
		strings.Repeat("\xff", 9) + "a": api.ErrForm,
		laid("\x05\x09ab", 1):           api.ErrSum,
		laid("\x05\x09ab", 1<<31):       api.ErrSum,
		laid("\x80", 1):                 api.ErrSum, // the frame is looked at ahead of the body
		laid(number(1<<41)+"\x00", 1):   api.ErrSum,
		laid("a", 0):                    api.ErrForm, // from here on frames that are right, but hold no record
		laid("\x80", 0):                 api.ErrForm,
		laid("\x05", 0):                 api.ErrForm,
		laid("\x05\x80", 0):             api.ErrForm,
		laid("\x80\x00\x09ab", 0):       api.ErrForm,
		laid("\x05\x89\x00ab", 0):       api.ErrForm,
		laid(strings.Repeat("\xff", api.MaxBody), 0):           api.ErrForm,
		laid(number(api.MaxOffset+1)+"\x09ab", 0):              api.ErrRange,
		laid("\x05"+number(api.MaxOffset+1)+"ab", 0):           api.ErrRange,
		laid(number(math.MaxInt)+"\x09"+text(65), 0):           api.ErrRange,
		laid("\x05\x09"+text(api.MaxPayload+1), 0):             api.ErrLong,
		laid("\x05\x09"+strings.Repeat("a", api.MaxBody-2), 0): api.ErrLong,
	}
	for n := range len(few()) + 1 {
		l := few()[:n]
		for s, err := range bad {
			for _, behind := range []string{"", "\x00", "\x80", whole(api.Rec{At: 1})} {
				rows(t, row(l)+s+behind, l, len(row(l)), err)
			}
		}
	}
}

// P4.2: frames that are cut off, also such as would hold no record.
func TestRowsCut(t *testing.T) {
	for n := range len(few()) + 1 {
		l := few()[:n]
		for _, s := range []string{whole(api.Rec{At: 300, Time: 9, Data: text(30)}), laid("\x80", 0), laid("\x05\x09"+text(200), 0), laid("\x05\x09ab", 1)} {
			for cut := 1; cut < len(s); cut++ {
				rows(t, row(l)+s[:cut], l, len(row(l)), api.ErrShort)
			}
		}
		for _, s := range []string{"\x80", "\xff\xff\xff\xff\xff\xff\xff\xff", number(api.MaxBody)} {
			rows(t, row(l)+s, l, len(row(l)), api.ErrShort)
		}
	}
}

// P4.3: there and back, of one and of many.
func TestThereAndBack(t *testing.T) {
	for _, r := range records() {
		s, err := Put(r)
		if err != api.OK || len(s) != Size(r) {
			t.Fatalf("Put(%d, %d, %q) = %d bytes, %d", r.At, r.Time, r.Data, len(s), err)
		}
		rows(t, s, []api.Rec{r}, len(s), api.OK)
		get(t, s[5:], r, api.OK)
	}
	for _, l := range [][]api.Rec{nil, few(), records()} {
		s, err := Row(l)
		if err != api.OK {
			t.Fatalf("Row of %d records fails with %d", len(l), err)
		}
		rows(t, s, l, len(s), api.OK)
	}
}

// P4.3: what is told was put in the one way there is, of whatever texts.
func TestOneWay(t *testing.T) {
	r := rand.New(rand.NewSource(4))
	for range 50000 {
		body := []byte(number(r.Intn(1<<r.Intn(42))) + number(r.Intn(1<<r.Intn(42))) + text(r.Intn(70)))
		for range r.Intn(3) {
			body[r.Intn(min(len(body), 12))] = byte(r.Intn(256))
		}
		got, err := Get(string(body))
		if err == api.OK && bodyOf(got) != string(body) {
			t.Fatalf("Get(%q) = %d, %d, %q, which are put as %q", body, got.At, got.Time, got.Data, bodyOf(got))
		}
		s := whole(few()[0]) + laid(string(body), 0)
		l, end, _ := Rows(s)
		if back, err := Row(l); back != s[:end] || err != api.OK {
			t.Fatalf("Rows(%q) tells %d records, which are put as %q, %d", s, len(l), back, err)
		}
	}
}

// P4.3: of records in a row that are cut off anywhere just the whole ones are told.
func TestCut(t *testing.T) {
	l := few()
	behind := map[int]int{}
	for n := range len(l) + 1 {
		behind[len(row(l[:n]))] = n
	}
	n, end := 0, 0
	for cut := range len(row(l)) + 1 {
		want := api.ErrShort
		if i, between := behind[cut]; between {
			n, end, want = i, cut, api.OK
		}
		rows(t, row(l)[:cut], l[:n], end, want)
	}
}

// P4.1, P4.2: what is handed in stays, its spare room too; the same call tells the same; what was told stays.
func TestNothingKept(t *testing.T) {
	l := few()
	s := row(l)
	told, _, _ := Rows(s)
	for range 3 {
		if got, err := Row(l[:3]); got != row(l[:3]) || err != api.OK {
			t.Errorf("Row = %q, %d", got, err)
		}
		rows(t, s, few(), len(s), api.OK)
		rows(t, "\x00", nil, 0, api.ErrForm)
		get(t, "\x05\x09ab", api.Rec{At: 5, Time: 9, Data: "ab"}, api.OK)
		refuse(t, "\x05", api.ErrForm)
	}
	if !slices.Equal(l, few()) || !slices.Equal(told, few()) {
		t.Error("the records have changed")
	}
	told[0] = api.Rec{At: 1}
	rows(t, s, few(), len(s), api.OK)
}
