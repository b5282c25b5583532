package segment

import (
	"math"
	"math/rand"
	"slices"
	"strings"
	"testing"

	"wagoner/api"
	"wagoner/frame"
	"wagoner/record"
	"wagoner/sparse"
	"wagoner/varint"
)

// bases: from which a segment of so many records may go.
func bases(n int) []int {
	return []int{0, 1, 2, 126, 127, 300, 1<<21 - 1, 1 << 32, api.MaxOffset - max(n, 1), api.MaxOffset - max(n-1, 0)}
}

// wrongBases: that may not be.
var wrongBases = []int{-1, -2, -128, math.MinInt32, -api.MaxOffset, math.MinInt + 1, math.MinInt, api.MaxOffset + 1, api.MaxOffset + 2, 1 << 41, 1 << 62, math.MaxInt - 1, math.MaxInt}

// everies: of one, of two, of more, around a number of records, and far above.
func everies(n int) []int {
	l := []int{1, 2, 3, 7, 64, max(n-1, 1), max(n, 1), n + 1, n + 2, 2*n + 1, 1 << 40, math.MaxInt - 1, math.MaxInt}
	slices.Sort(l)
	return slices.Compact(l)
}

// text: so many bytes of all kinds.
func text(n int) string {
	l := make([]byte, n)
	rand.New(rand.NewSource(int64(n))).Read(l)
	return string(l)
}

// some: so many records from base on, of unlike times and lengths.
func some(n, base int) []api.Rec {
	var l []api.Rec
	for i := range n {
		l = append(l, api.Rec{At: base + i, Time: i * i % 1000, Data: text(i * 7 % (api.MaxPayload + 1))})
	}
	return l
}

// framed: the frame of a body.
func framed(body string) string {
	s, err := frame.Put(body)
	if err != api.OK {
		panic("no body")
	}
	return s
}

// whole: a record's frame.
func whole(r api.Rec) string {
	s, err := record.Put(r)
	if err != api.OK {
		panic("no record")
	}
	return s
}

// row: the frames of records, one behind the other.
func row(l []api.Rec) string {
	var s strings.Builder
	for _, r := range l {
		s.WriteString(whole(r))
	}
	return s.String()
}

// scanned: what Scan tells, by the chapter's words.
func scanned(s string, base int) ([]api.Rec, int, api.Errno) {
	if base < 0 || base > api.MaxOffset {
		return nil, 0, api.ErrArg
	}
	l, end, err := record.Rows(s)
	at := 0
	for i, r := range l {
		if r.At != base+i {
			return l[:i], at, api.ErrForm
		}
		at += record.Size(r)
	}
	return l, end, err
}

// marked: what Index tells, by the chapter's words.
func marked(s string, base, every int) []api.Mark {
	var marks []api.Mark
	l, _, _ := scanned(s, base)
	at := 0
	for i, r := range l {
		if i%every == 0 {
			marks = append(marks, api.Mark{Off: base + i, Pos: at})
		}
		at += record.Size(r)
	}
	return marks
}

// short: a text, for what a failed test tells.
func short(s string) string {
	if len(s) > 24 {
		return s[:24] + ".."
	}
	return s
}

// scan fails the test unless Scan tells these records, that place and that error.
func scan(t *testing.T, s string, base int, want []api.Rec, end int, wantErr api.Errno) {
	t.Helper()
	l, at, err := Scan(s, base)
	if !slices.Equal(l, want) || at != end || err != wantErr {
		t.Errorf("Scan(%q (%d bytes), %d) = %d records, %d, %d, want %d records, %d, %d", short(s), len(s), base, len(l), at, err, len(want), end, wantErr)
	}
}

// index fails the test unless Index tells what the chapter's words say.
func index(t *testing.T, s string, base, every int) {
	t.Helper()
	want := marked(s, base, every)
	if l := Index(s, base, every); !slices.Equal(l, want) || !sparse.Right(l) {
		t.Errorf("Index(%q (%d bytes), %d, %d) = %d marks, want %d", short(s), len(s), base, every, len(l), len(want))
	}
}

// read fails the test unless Read tells that record and that error.
func read(t *testing.T, s string, base int, l []api.Mark, off int, want api.Rec, wantErr api.Errno) {
	t.Helper()
	if r, err := Read(s, base, l, off); r != want || err != wantErr {
		t.Errorf("Read(%q (%d bytes), %d, %d marks, %d) = %d, %d, %q, %d, want %d, %d, %q, %d", short(s), len(s), base, len(l), off, r.At, r.Time, short(r.Data), err, want.At, want.Time, short(want.Data), wantErr)
	}
}

// readAll fails the test unless Read tells just these records, and ErrRange around them, by marks of all kinds.
func readAll(t *testing.T, s string, base int, l []api.Rec) {
	t.Helper()
	outside := []int{math.MinInt, math.MinInt + 1, math.MinInt32, math.MaxInt - 1, math.MaxInt}
	for _, near := range []int{0, 1, 2, 3, 100, api.MaxOffset} {
		outside = append(outside, base-1-near, base+len(l)+near)
	}
	for _, every := range everies(len(l)) {
		marks := Index(s, base, every)
		for _, r := range l {
			read(t, s, base, marks, r.At, r, api.OK)
		}
		for _, off := range outside {
			read(t, s, base, marks, off, api.Rec{}, api.ErrRange)
		}
	}
}

// all fails the test unless all calls tell these records of s, that place and that error.
func all(t *testing.T, s string, base int, want []api.Rec, end int, wantErr api.Errno) {
	t.Helper()
	scan(t, s, base, want, end, wantErr)
	for _, every := range everies(len(want)) {
		index(t, s, base, every)
	}
	readAll(t, s, base, want)
}

// bad: bytes that are none of a record, whatever stands behind them, and what layer 4 tells of them.
func bad() map[string]api.Errno {
	long := strings.Repeat("a", api.MaxPayload+1)
	turned := []byte(whole(api.Rec{At: 5, Time: 9, Data: "ab"}))
	turned[len(turned)-1] ^= 1
	none := []byte(framed("a"))
	none[1] ^= 128
	return map[string]api.Errno{
		"\x00":                           api.ErrForm, // no body has no bytes
		"\x80\x00":                       api.ErrForm,
		varint.Put(api.MaxBody + 1):      api.ErrForm,
		varint.Put(math.MaxInt):          api.ErrForm,
		strings.Repeat("\xff", 9) + "a":  api.ErrForm,
		string(turned):                   api.ErrSum,
		string(none):                     api.ErrSum,
		framed("a"):                      api.ErrForm, // from here on frames that are right, but hold no record
		framed("\x80"):                   api.ErrForm,
		framed("\x05"):                   api.ErrForm,
		framed("\x05\x80"):               api.ErrForm,
		framed("\x80\x00\x09ab"):         api.ErrForm,
		framed("\x05\x89\x00ab"):         api.ErrForm,
		framed("\x05\x09" + long):        api.ErrLong,
		framed("\x05\x09" + text(65534)): api.ErrLong,
		framed("\x05" + varint.Put(api.MaxOffset+1) + "ab"): api.ErrRange,
		framed(varint.Put(api.MaxOffset+1) + "\x09ab"):      api.ErrRange,
		framed(varint.Put(math.MaxInt) + "\x09" + long):     api.ErrRange,
	}
}

// P9.1: the chapter's example: two records, cut in the second one; and the bytes themselves.
func TestExample(t *testing.T) {
	l := some(2, 7)
	first := whole(l[0])
	for cut := len(first) + 1; cut < len(row(l)); cut++ {
		scan(t, row(l)[:cut], 7, l[:1], len(first), api.ErrShort)
	}
	s := "\x04\x91\xa1\x83\x8d\x05\x09ab"
	r := api.Rec{At: 5, Time: 9, Data: "ab"}
	all(t, s, 5, []api.Rec{r}, 9, api.OK)
	for _, base := range []int{0, 1, 3, 4, 6, 7, 133, api.MaxOffset} {
		all(t, s, base, nil, 0, api.ErrForm)
	}
	if marks := Index(s, 5, 1); !slices.Equal(marks, []api.Mark{{Off: 5, Pos: 0}}) {
		t.Errorf("the marks are %v", marks)
	}
}

// P9.1, P9.2: no bytes, one record, many, from all bases.
func TestWhole(t *testing.T) {
	for _, n := range []int{0, 1, 2, 3, 4, 10, 65, 200} {
		for _, base := range bases(n) {
			l := some(n, base)
			if n == 0 || l[n-1].At <= api.MaxOffset {
				all(t, row(l), base, l, len(row(l)), api.OK)
			}
		}
	}
	for _, base := range []int{0, 1, 300, api.MaxOffset - 1, api.MaxOffset} {
		all(t, "", base, nil, 0, api.OK)
		all(t, whole(api.Rec{At: base}), base, []api.Rec{{At: base}}, record.Size(api.Rec{At: base}), api.OK)
	}
}

// P9.1: data that look like frames, records, or numbers are data.
func TestInner(t *testing.T) {
	var l []api.Rec
	for i, data := range []string{whole(api.Rec{At: 12}), "\x00", whole(api.Rec{At: 11, Time: 3, Data: "within"}), "\x80", strings.Repeat("\xff", api.MaxPayload), framed("\x05"), ""} {
		l = append(l, api.Rec{At: 11 + i, Time: 4, Data: data})
	}
	all(t, row(l), 11, l, len(row(l)), api.OK)
}

// P9.1, P9.2: a base that may not be, whatever stands there.
func TestWrongBase(t *testing.T) {
	texts := []string{"", "\x00", "\x80", "text", row(some(1, 0)), row(some(3, 0)), row(some(3, 1)), row(some(1, api.MaxOffset)), framed(varint.Put(api.MaxOffset+1) + "\x00"), framed(varint.Put(math.MaxInt) + "\x00")}
	for _, base := range wrongBases {
		for _, s := range texts {
			scan(t, s, base, nil, 0, api.ErrArg)
			for _, every := range []int{1, 2, 3, 1000, math.MaxInt} {
				marks := Index(s, base, every)
				if len(marks) != 0 {
					t.Errorf("Index(%q, %d, %d) = %v", short(s), base, every, marks)
				}
				for _, off := range []int{base, base + 1, base - 1, 0, 1, api.MaxOffset, api.MaxOffset + 1, math.MinInt, math.MaxInt} {
					read(t, s, base, marks, off, api.Rec{}, api.ErrRange)
				}
			}
		}
	}
}

// P9.1, P9.2: a record whose offset is another one: the first one, one amid them, the last one; less, more, the same again.
func TestOtherOffset(t *testing.T) {
	for _, n := range []int{1, 2, 3, 6} {
		for _, base := range []int{0, 1, 2, 127, 300, api.MaxOffset - 6} {
			for place := range n {
				due := base + place
				for _, off := range []int{due - 1, due + 1, due - 2, due + 2, due + 128, due ^ 1<<20, 0, 1, n, place, api.MaxOffset - 1, api.MaxOffset} {
					if off == due || off < 0 || off > api.MaxOffset {
						continue
					}
					l := some(n, base)
					l[place].At = off
					all(t, row(l), base, l[:place], len(row(l[:place])), api.ErrForm)
				}
			}
			// One that is left out, one that comes too much, two that are turned.
			l := some(n+2, base)[:n]
			for place := range n {
				twice := slices.Insert(slices.Clone(l), place, l[place])
				all(t, row(twice), base, l[:place+1], len(row(l[:place+1])), api.ErrForm)
				if place+1 == n {
					continue
				}
				all(t, row(slices.Delete(slices.Clone(l), place, place+1)), base, l[:place], len(row(l[:place])), api.ErrForm)
				turned := slices.Clone(l)
				turned[place], turned[place+1] = l[place+1], l[place]
				all(t, row(turned), base, l[:place], len(row(l[:place])), api.ErrForm)
			}
		}
	}
}

// P9.1: from another base on there is nothing.
func TestOtherBase(t *testing.T) {
	l := some(5, 20)
	for _, base := range []int{0, 1, 18, 19, 21, 22, 24, 25, api.MaxOffset} {
		all(t, row(l), base, nil, 0, api.ErrForm)
	}
	all(t, row(l[2:]), 22, l[2:], len(row(l[2:])), api.OK)
}

// P9.1, P9.2: behind the record of the greatest offset there is none any more.
func TestGreatestOffset(t *testing.T) {
	for n := 1; n < 5; n++ {
		base := api.MaxOffset - n + 1
		l := some(n, base)
		s := row(l)
		all(t, s, base, l, len(s), api.OK)
		for _, off := range []int{0, base, api.MaxOffset - 1, api.MaxOffset} {
			all(t, s+whole(api.Rec{At: off}), base, l, len(s), api.ErrForm)
		}
		for _, off := range []int{api.MaxOffset + 1, api.MaxOffset + 2, math.MaxInt} {
			all(t, s+framed(varint.Put(off)+"\x00ab"), base, l, len(s), api.ErrRange)
		}
	}
}

// P9.1, P9.2: bytes that are none behind the last record, or amid them: all that layer 4 tells.
func TestNoRecord(t *testing.T) {
	for _, base := range []int{0, 5, api.MaxOffset - 5} {
		for n := range 4 {
			l := some(n, base)
			s := row(l)
			for b, err := range bad() {
				for _, behind := range []string{"", "\x00", "\x80", whole(api.Rec{At: base + n}), row(some(3, base+n))[:20]} {
					all(t, s+b+behind, base, l, len(s), err)
				}
			}
			for _, b := range []string{"\x80", "\xff", strings.Repeat("\xff", 8), varint.Put(api.MaxBody), "\x01", "\x09\x00\x00\x00\x00", framed("\x05\x09" + text(65000))[:65000]} {
				all(t, s+b, base, l, len(s), api.ErrShort)
			}
		}
	}
}

// P9.1: layer 4's errors are told ahead of another offset's.
func TestFirstError(t *testing.T) {
	long := text(api.MaxPayload + 1)
	l := some(2, 8)
	s := row(l)
	for _, at := range []int{0, 7, 8, 9, 10, 11, api.MaxOffset} {
		all(t, s+framed(varint.Put(at)+"\x00"+long), 8, l, len(s), api.ErrLong)
		all(t, s+framed(varint.Put(at)+varint.Put(api.MaxOffset+1)), 8, l, len(s), api.ErrRange)
		all(t, s+framed(varint.Put(at)+"\x80"), 8, l, len(s), api.ErrForm)
		f := whole(api.Rec{At: at, Data: "ab"})
		all(t, s+f[:len(f)-1], 8, l, len(s), api.ErrShort)
		all(t, s+f[:len(f)-1]+"c", 8, l, len(s), api.ErrSum)
	}
}

// P9.3: of a segment that is cut off anywhere the whole records are told.
func TestCut(t *testing.T) {
	for _, base := range []int{0, 1, 126, 300, api.MaxOffset - 11} {
		l := some(12, base)
		s := row(l)
		behind := map[int]int{}
		for n := range len(l) + 1 {
			behind[len(row(l[:n]))] = n
		}
		n, end := 0, 0
		for cut := range len(s) + 1 {
			want := api.ErrShort
			if i, between := behind[cut]; between {
				n, end, want = i, cut, api.OK
			}
			all(t, s[:cut], base, l[:n], end, want)
		}
	}
}

// P9.1, P9.2: a byte that is turned: what stands ahead of its record is told, and nothing else.
func TestTurned(t *testing.T) {
	for _, base := range []int{0, 127, api.MaxOffset - 4} {
		l := some(5, base)
		s := []byte(row(l))
		n, end := 0, 0
		for i := range s {
			if i == end+record.Size(l[n]) {
				n, end = n+1, i
			}
			for bit := range 8 {
				s[i] ^= 1 << bit
				_, _, want := scanned(string(s), base)
				if want == api.OK {
					t.Errorf("the byte %d turned is no fault", i)
				}
				all(t, string(s), base, l[:n], end, want)
				s[i] ^= 1 << bit
			}
		}
	}
}

// P9.1: which records have marks, word by word.
func TestIndex(t *testing.T) {
	l := some(8, 10)
	s := row(l)
	at := func(n int) api.Mark { return api.Mark{Off: 10 + n, Pos: len(row(l[:n]))} }
	for _, c := range []struct {
		every int
		want  []api.Mark
	}{
		{1, []api.Mark{at(0), at(1), at(2), at(3), at(4), at(5), at(6), at(7)}},
		{2, []api.Mark{at(0), at(2), at(4), at(6)}},
		{3, []api.Mark{at(0), at(3), at(6)}},
		{4, []api.Mark{at(0), at(4)}},
		{5, []api.Mark{at(0), at(5)}},
		{7, []api.Mark{at(0), at(7)}},
		{8, []api.Mark{at(0)}}, {9, []api.Mark{at(0)}}, {10, []api.Mark{at(0)}}, {math.MaxInt, []api.Mark{at(0)}},
	} {
		if got := Index(s, 10, c.every); !slices.Equal(got, c.want) {
			t.Errorf("Index of every %d = %v, want %v", c.every, got, c.want)
		}
		if got := Index("", 10, c.every); len(got) != 0 {
			t.Errorf("Index of no bytes = %v", got)
		}
	}
}

// P9.1: only records that Scan tells have marks.
func TestIndexFault(t *testing.T) {
	l := some(7, 30)
	for n := range len(l) {
		l[n].At++
		for _, every := range everies(n) {
			want := marked(row(l[:n]), 30, every)
			if got := Index(row(l), 30, every); !slices.Equal(got, want) {
				t.Errorf("Index of %d records and a fault, every %d = %v, want %v", n, every, got, want)
			}
		}
		l[n].At--
	}
}

// P9.2: what stands behind a fault isn't read, though it is a record of that offset.
func TestReadBehindFault(t *testing.T) {
	l := some(6, 40)
	for n := range len(l) {
		for b := range bad() {
			s := row(l[:n]) + b + row(l[n:])
			readAll(t, s, 40, l[:n])
		}
		s := row(l[:n]) + whole(api.Rec{At: 39}) + row(l[n:])
		readAll(t, s, 40, l[:n])
	}
}

// P9.3: a record is read by whatever marks.
func TestWhateverMarks(t *testing.T) {
	l := some(50, 1000)
	s := row(l)
	for off := 990; off < 1060; off++ {
		want, wantErr := api.Rec{}, api.ErrRange
		if off >= 1000 && off < 1050 {
			want, wantErr = l[off-1000], api.OK
		}
		for every := 1; every < 55; every++ {
			read(t, s, 1000, Index(s, 1000, every), off, want, wantErr)
		}
	}
}

// P9.1 to P9.3: segments of any records, with any fault.
func TestAny(t *testing.T) {
	r := rand.New(rand.NewSource(9))
	faults := 0
	for range 1500 {
		base := r.Intn(1 << r.Intn(41))
		n := r.Intn(20)
		var l []api.Rec
		for i := range n {
			l = append(l, api.Rec{At: base + i, Time: r.Intn(1 << r.Intn(41)), Data: text(r.Intn(api.MaxPayload + 1))})
		}
		if n > 0 && r.Intn(4) == 0 {
			l[r.Intn(n)].At += r.Intn(3) - 1
		}
		if n > 0 && l[0].At < 0 {
			l[0].At = 0
		}
		s := []byte(row(l))
		if len(s) > 0 && r.Intn(3) == 0 {
			s[r.Intn(len(s))] = byte(r.Intn(256))
		}
		if r.Intn(3) == 0 {
			s = s[:r.Intn(len(s)+1)]
		}
		if r.Intn(3) == 0 {
			s = append(s, text(r.Intn(30))...)
		}
		told, end, err := scanned(string(s), base)
		if err != api.OK {
			faults++
		}
		all(t, string(s), base, told, end, err)
	}
	if faults < 300 || faults > 1200 {
		t.Errorf("of 1500 segments %d have a fault", faults)
	}
}

// P9.1, P9.2: a great segment.
func TestGreat(t *testing.T) {
	l := some(60000, 77)
	s := row(l)
	scan(t, s, 77, l, len(s), api.OK)
	for _, every := range []int{1, 2, 1000, 59999, 60000, 60001} {
		index(t, s, 77, every)
		marks := Index(s, 77, every)
		for n := 0; n < len(l); n += 5999 {
			read(t, s, 77, marks, 77+n, l[n], api.OK)
		}
		read(t, s, 77, marks, 77+len(l)-1, l[len(l)-1], api.OK)
		read(t, s, 77, marks, 77+len(l), api.Rec{}, api.ErrRange)
		read(t, s, 77, marks, 76, api.Rec{}, api.ErrRange)
	}
}

// P9.2: what is handed in stays as it was, its spare room too.
func TestNothingChanged(t *testing.T) {
	l := some(20, 3)
	s := row(l)
	for _, every := range everies(20) {
		room := Index(s, 3, every)
		n := len(room)
		for i := range 6 {
			room = append(room, api.Mark{Off: 3 + i, Pos: 7000 + i})
		}
		was := slices.Clone(room)
		for off := -2; off < 30; off++ {
			want, wantErr := api.Rec{}, api.ErrRange
			if off >= 3 && off < 23 {
				want, wantErr = l[off-3], api.OK
			}
			read(t, s, 3, room[:n], off, want, wantErr)
		}
		if !slices.Equal(room, was) {
			t.Errorf("the marks of every %d have changed", every)
		}
	}
}

// P9.1, P9.2: the same again answers the same, whatever was asked between, and what was told stays.
func TestNothingKept(t *testing.T) {
	l := some(9, 3)
	s := row(l)
	told, _, _ := Scan(s, 3)
	marks := Index(s, 3, 2)
	was := slices.Clone(marks)
	for range 3 {
		all(t, s, 3, l, len(s), api.OK)
		all(t, row(l[1:]), 4, l[1:], len(row(l[1:])), api.OK)
		all(t, s, 4, nil, 0, api.ErrForm)
		scan(t, s, -1, nil, 0, api.ErrArg)
	}
	if !slices.Equal(told, l) || !slices.Equal(marks, was) {
		t.Error("what was told has changed")
	}
	// What was told may be changed by whom it was told to.
	told[0], marks[0] = api.Rec{}, api.Mark{Off: -1, Pos: -1}
	all(t, s, 3, l, len(s), api.OK)
}

// What the chapter doesn't ask for ends, too: an every below 1, marks of other segments, or such as may not be.
func TestNotAsked(t *testing.T) {
	l := some(6, 3)
	ends := []int{math.MinInt, math.MinInt + 1, -1, 0, 1, 3, 9, 30, math.MaxInt - 1, math.MaxInt}
	for _, s := range []string{"", "\x80", "text", row(l), row(l)[:50]} {
		for _, base := range ends {
			for _, every := range []int{0, -1, -2, math.MinInt} {
				Index(s, base, every)
			}
			for _, off := range ends {
				for _, pos := range ends {
					for _, marks := range [][]api.Mark{{{Off: off, Pos: pos}}, {{Off: 3, Pos: pos}, {Off: off, Pos: 7}}, {{Off: 9, Pos: 9}, {Off: off, Pos: pos}, {Off: -1, Pos: -1}}} {
						if r, err := Read(s, base, marks, base); err != api.OK && r != (api.Rec{}) {
							t.Errorf("Read(%q, %d, %v, %d) = %v beside %d", short(s), base, marks, base, r, err)
						}
					}
				}
			}
		}
	}
}
