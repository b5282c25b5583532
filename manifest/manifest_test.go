package manifest

import (
	"encoding/binary"
	"hash/crc32"
	"math"
	"math/rand"
	"slices"
	"strings"
	"testing"

	"wagoner/api"
	"wagoner/frame"
)

// Numbers that may be a Ver, or an offset above 0: the ends, those beside them, and where a number's bytes become one more.
var inside = []int{1, 2, 127, 128, 300, 1<<14 - 1, 1 << 14, 1<<21 - 1, 1 << 21, 1<<28 - 1, 1 << 28, 1 << 32, 1<<35 - 1, 1 << 35, api.MaxOffset - 1, api.MaxOffset}

// above: such as are too great for both, but may stand in a body.
var above = []int{api.MaxOffset + 1, api.MaxOffset + 2, 1<<41 - 1, 1 << 41, 1<<42 - 1, 1 << 42, 1 << 62, math.MaxInt - 1, math.MaxInt}

// below: such as are less than 0.
var below = []int{-1, -2, -127, -128, math.MinInt32, -api.MaxOffset, -api.MaxOffset - 1, -1 << 62, math.MinInt + 1, math.MinInt}

// sizes: of a snapshot that may be, and of such as may not; the first of these may stand in a body.
var (
	sizes      = []int{1, 2, 127, 128, 300, 1<<14 - 1, 1 << 14, api.MaxBody - 1, api.MaxBody}
	wrongSizes = []int{0, api.MaxBody + 1, api.MaxBody + 2, 1 << 17, 1 << 32, api.MaxOffset, math.MaxInt - 1, math.MaxInt}
)

// sums: of a snapshot, none of which may not be.
var sums = []uint32{0, 1, 2, 0x80, 0xff, 0x100, 0x8000, 0x12345678, 0x82f63b78, 0x80000000, 0xff000000, math.MaxUint32 - 1, math.MaxUint32}

// number: the bytes of n.
func number(n int) string {
	return string(binary.AppendUvarint(nil, uint64(n)))
}

// longer: the bytes of n, and so many more than it needs.
func longer(n, more int) string {
	s := []byte(number(n))
	for range more {
		s[len(s)-1] += 128
		s = append(s, 0)
	}
	return string(s)
}

// four: the four bytes of a sum, the lowest first.
func four(sum uint32) string {
	return string(binary.LittleEndian.AppendUint32(nil, sum))
}

// laid: the frame of a body, by chapter 3; its sum turned by turn.
func laid(body string, turn uint32) string {
	n := number(len(body))
	return n + four(crc32.Checksum([]byte(n+body), crc32.MakeTable(crc32.Castagnoli))^turn) + body
}

// parts: the fields of a manifest's body, one behind the other, by the chapter's words.
func parts(m api.Man) []string {
	l := []string{number(m.Ver), number(len(m.Segs))}
	for _, base := range m.Segs {
		l = append(l, number(base))
	}
	return append(l, number(m.Size), four(m.Sum))
}

// bodyOf: a manifest's body, by the chapter's words, whether it may be or not.
func bodyOf(m api.Man) string {
	return strings.Join(parts(m), "")
}

// whole: a manifest's bytes, by the chapter's words, whether it may be or not.
func whole(m api.Man) string {
	return laid(bodyOf(m), 0)
}

// right: may the manifest be, by the chapter's words?
func right(m api.Man) bool {
	offset := func(n int) bool { return n >= 0 && n <= api.MaxOffset }
	switch {
	case m.Ver == 0, !offset(m.Ver), len(m.Segs) == 0, len(m.Segs) > 64, slices.ContainsFunc(m.Segs, func(n int) bool { return !offset(n) }):
		return false
	}
	for i, n := range m.Segs[1:] {
		if n <= m.Segs[i] {
			return false
		}
	}
	if m.Segs[0] == 0 {
		return m.Size == 0 && m.Sum == 0
	}
	return m.Size > 0 && m.Size <= 65536
}

// rough: the fields that stand in a body, taken without a look at whether they are rightly written; what isn't there is 0.
func rough(body string) api.Man {
	l := []byte(body)
	take := func() int {
		n, size := binary.Uvarint(l)
		l = l[max(size, 0):]
		return int(n)
	}
	m := api.Man{Ver: take()}
	for range min(uint(take()), 100) {
		m.Segs = append(m.Segs, take())
	}
	m.Size = take()
	var sum [4]byte
	copy(sum[:], l)
	m.Sum = binary.LittleEndian.Uint32(sum[:])
	return m
}

// told: what Get tells, by the chapter's words: is s just what the fields that stand there are put as?
func told(s string) (api.Man, api.Errno) {
	body, _, err := frame.Next(s, 0)
	if err != api.OK {
		return api.Man{}, err
	}
	if m := rough(body); right(m) && whole(m) == s {
		return m, api.OK
	}
	return api.Man{}, api.ErrForm
}

// same: are the manifests alike?
func same(a, b api.Man) bool {
	return a.Ver == b.Ver && slices.Equal(a.Segs, b.Segs) && a.Size == b.Size && a.Sum == b.Sum
}

// copied: a manifest that shares nothing with m.
func copied(m api.Man) api.Man {
	m.Segs = slices.Clone(m.Segs)
	return m
}

// rising: so many offsets from the first one on, with that step between.
func rising(n, first, step int) []int {
	var l []int
	for i := range n {
		l = append(l, first+i*step)
	}
	return l
}

// segs: offsets that may be, the first one of which is 0, or above it.
func segs() [][]int {
	var l [][]int
	for _, first := range append([]int{0}, inside...) {
		l = append(l, []int{first})
		for _, next := range inside {
			if next > first {
				l = append(l, []int{first, next})
			}
		}
	}
	for _, n := range []int{2, 3, 10, 63, 64} {
		last := api.MaxOffset - n + 1
		l = append(l, rising(n, 0, 1), rising(n, 1, 1), rising(n, last, 1), rising(n, 0, 1<<34), rising(n, 120, 1), rising(n, 1<<28-20, 3))
		l = append(l, append(rising(n-1, 0, 1), api.MaxOffset), append(rising(n-1, 1, 1), api.MaxOffset))
		l = append(l, append([]int{0}, rising(n-1, last+1, 1)...), append([]int{1}, rising(n-1, last+1, 1)...))
		for _, first := range []int{0, 7} {
			l = append(l, append([]int{first}, rising(n-1, first+1000, 1<<30)...))
		}
	}
	return append(l, slices.Concat([]int{0}, inside), inside)
}

// mans: manifests that may be.
func mans() []api.Man {
	var l []api.Man
	for _, ver := range inside {
		for _, m := range few() {
			m.Ver = ver
			l = append(l, m)
		}
	}
	for _, bases := range segs() {
		if bases[0] == 0 {
			l = append(l, api.Man{Ver: 9, Segs: bases})
			continue
		}
		for _, size := range []int{1, 130, api.MaxBody} {
			for _, sum := range []uint32{0, 0x12345678, math.MaxUint32} {
				l = append(l, api.Man{Ver: 9, Segs: bases, Size: size, Sum: sum})
			}
		}
	}
	for _, size := range sizes {
		for _, sum := range sums {
			for _, bases := range [][]int{{1}, {300, 400}, {api.MaxOffset}, rising(64, 5, 9)} {
				l = append(l, api.Man{Ver: 9, Segs: bases, Size: size, Sum: sum})
			}
		}
	}
	return l
}

// few: some manifests that may be, and are unlike.
func few() []api.Man {
	return []api.Man{
		{Ver: 1, Segs: []int{0}},
		{Ver: 1, Segs: []int{1}, Size: 1},
		{Ver: 300, Segs: []int{7, 128, api.MaxOffset}, Size: api.MaxBody, Sum: 0x12345678},
		{Ver: api.MaxOffset, Segs: rising(api.MaxSegs, 0, 1)},
		{Ver: api.MaxOffset, Segs: rising(api.MaxSegs, api.MaxOffset-api.MaxSegs+1, 1), Size: api.MaxBody, Sum: math.MaxUint32},
		{Ver: 2, Segs: []int{0, 1, 1 << 20}},
		{Ver: 127, Segs: []int{api.MaxOffset}, Size: 128, Sum: 1 << 31},
		{Ver: 128, Segs: []int{1, 2}, Size: 127, Sum: 0x80808080},
	}
}

// wrong: manifests that may not be, each for one fault alone, without numbers below 0: all of them may be written.
func wrong() []api.Man {
	var l []api.Man
	for _, m := range few() {
		for _, ver := range append([]int{0}, above...) {
			l = append(l, api.Man{Ver: ver, Segs: m.Segs, Size: m.Size, Sum: m.Sum})
		}
		l = append(l, api.Man{Ver: m.Ver, Size: m.Size, Sum: m.Sum})
	}
	for _, bases := range wrongSegs() {
		if bases[0] == 0 {
			l = append(l, api.Man{Ver: 9, Segs: bases})
		} else {
			l = append(l, api.Man{Ver: 9, Segs: bases, Size: 50, Sum: 60})
		}
	}
	for _, bases := range [][]int{{0}, {0, 1}, {0, api.MaxOffset}, rising(64, 0, 2)} {
		for _, size := range slices.Concat(sizes, wrongSizes[1:]) {
			l = append(l, api.Man{Ver: 9, Segs: bases, Size: size})
		}
		for _, sum := range sums[1:] {
			l = append(l, api.Man{Ver: 9, Segs: bases, Sum: sum})
		}
		l = append(l, api.Man{Ver: 9, Segs: bases, Size: 1, Sum: 1})
	}
	for _, bases := range [][]int{{1}, {1, 2}, {300}, {api.MaxOffset}, rising(64, 1, 2)} {
		for _, size := range wrongSizes {
			for _, sum := range sums {
				l = append(l, api.Man{Ver: 9, Segs: bases, Size: size, Sum: sum})
			}
		}
	}
	return l
}

// wrongSegs: offsets that may not be, none of which is below 0: too many, such as stand twice, fall, or are too great.
func wrongSegs() [][]int {
	var l [][]int
	for _, n := range []int{65, 66, 127, 128, 129, 1000} {
		l = append(l, rising(n, 0, 1), rising(n, 1, 1), rising(n, 0, 1000), rising(n, 5, 1<<30))
	}
	for _, n := range []int{1, 2, 3, 64} {
		for _, first := range []int{0, 1, 20} {
			ok := rising(n, first, 3)
			for place := range n {
				if n < api.MaxSegs {
					l = append(l, slices.Insert(slices.Clone(ok), place, ok[place]))
				}
				for _, base := range above {
					l = append(l, append(slices.Clone(ok[:place]), base))
				}
				for _, base := range []int{0, first, ok[place] - 3, ok[place] - 4} {
					if place > 0 && base >= 0 {
						fallen := slices.Clone(ok)
						fallen[place] = base
						l = append(l, fallen)
					}
				}
			}
		}
	}
	l = append(l, []int{0, 0}, []int{1, 0}, []int{2, 1}, []int{5, 5}, []int{api.MaxOffset, api.MaxOffset}, []int{api.MaxOffset, 0}, []int{api.MaxOffset, api.MaxOffset - 1})
	return append(l, []int{0, api.MaxOffset, api.MaxOffset + 1}, rising(2, api.MaxOffset, 1), rising(64, api.MaxOffset-62, 1), []int{math.MaxInt, math.MaxInt}, []int{0, math.MaxInt})
}

// wrongBelow: manifests that may not be since a number is below 0.
func wrongBelow() []api.Man {
	var l []api.Man
	for _, n := range below {
		for _, m := range few() {
			l = append(l, api.Man{Ver: n, Segs: m.Segs, Size: m.Size, Sum: m.Sum}, api.Man{Ver: m.Ver, Segs: m.Segs, Size: n, Sum: m.Sum})
		}
		for _, bases := range [][]int{{n}, {n, 0}, {n, 1}, {n, 5, 6}, {0, n}, {1, n}, {5, 6, n}, {5, n, 6}, {0, 1, n, 2}} {
			for _, size := range []int{0, 1, 50, n} {
				l = append(l, api.Man{Ver: 9, Segs: bases, Size: size}, api.Man{Ver: 9, Segs: bases, Size: size, Sum: 60})
			}
		}
	}
	return append(l, api.Man{Ver: 9, Segs: []int{-2, -1}, Size: 1}, api.Man{Ver: 9, Segs: rising(64, -1, 1), Size: 1}, api.Man{Ver: 9, Segs: rising(3, math.MinInt, 1), Size: 1})
}

// short: a text, for what a failed test tells.
func short(s string) string {
	if len(s) > 24 {
		return s[:24] + ".."
	}
	return s
}

// may fails the test unless the manifest may be, and is put as the chapter says.
func may(t *testing.T, m api.Man) {
	t.Helper()
	s, err := Put(m)
	if want := whole(m); !Right(m) || s != want || err != api.OK {
		t.Errorf("of %v: Right %v, Put %q, %d, want true, %q, 0", m, Right(m), short(s), err, short(want))
	}
}

// mayNot fails the test unless the manifest may not be.
func mayNot(t *testing.T, m api.Man) {
	t.Helper()
	if s, err := Put(m); Right(m) || s != "" || err != api.ErrArg {
		t.Errorf("of %v: Right %v, Put %q, %d, want false, none, %d", m, Right(m), short(s), err, api.ErrArg)
	}
}

// get fails the test unless Get tells just that manifest and that error.
func get(t *testing.T, s string, want api.Man, wantErr api.Errno) {
	t.Helper()
	if m, err := Get(s); !same(m, want) || err != wantErr {
		t.Errorf("Get(%q) (%d bytes) = %v, %d, want %v, %d", short(s), len(s), m, err, want, wantErr)
	}
}

// refuse fails the test unless Get tells just that error.
func refuse(t *testing.T, s string, want api.Errno) {
	t.Helper()
	get(t, s, api.Man{}, want)
}

// noMan fails the test unless Get tells ErrForm of the body's frame.
func noMan(t *testing.T, body string) {
	t.Helper()
	refuse(t, laid(body, 0), api.ErrForm)
}

// P10.1: the chapter's example, byte by byte.
func TestExample(t *testing.T) {
	want := "\x08\xdb\xcb\xa9\x22\x01\x01\x00\x00\x00\x00\x00\x00"
	m := api.Man{Ver: 1, Segs: []int{0}}
	if s, err := Put(m); s != want || err != api.OK {
		t.Errorf("Put = %q, %d, want %q, 0", s, err, want)
	}
	get(t, want, m, api.OK)
}

// P10.1: a manifest of a snapshot and three segments, byte by byte.
func TestBytes(t *testing.T) {
	want := "\x13\x93\x96\x5d\x0f\xac\x02\x03\x07\x80\x01\x80\x80\x80\x80\x80\x20\x80\x80\x04\x78\x56\x34\x12"
	m := api.Man{Ver: 300, Segs: []int{7, 128, api.MaxOffset}, Size: api.MaxBody, Sum: 0x12345678}
	if s, err := Put(m); s != want || err != api.OK {
		t.Errorf("Put = %q, %d, want %q, 0", s, err, want)
	}
	get(t, want, m, api.OK)
}

// P10.1, P10.2: manifests that may be, there and back.
func TestThereAndBack(t *testing.T) {
	for _, m := range mans() {
		if !right(m) {
			t.Fatalf("%v isn't one that may be", m)
		}
		may(t, m)
		s, _ := Put(m)
		get(t, s, m, api.OK)
		get(t, whole(m), m, api.OK)
	}
}

// P10.1: manifests that may not be, and their bytes, which are none of a manifest.
func TestWrong(t *testing.T) {
	for _, m := range wrong() {
		if right(m) {
			t.Fatalf("%v is one that may be", m)
		}
		mayNot(t, m)
		refuse(t, whole(m), api.ErrForm)
	}
	mayNot(t, api.Man{})
	refuse(t, whole(api.Man{}), api.ErrForm)
}

// P10.1: numbers below 0, and their bytes, if these are taken for numbers without an end.
func TestBelow(t *testing.T) {
	for _, m := range wrongBelow() {
		mayNot(t, m)
		refuse(t, whole(m), api.ErrForm)
	}
}

// P10.1: how many segments there may be, none and one, and as many as may be and one more.
func TestHowMany(t *testing.T) {
	for n := range 200 {
		l := []api.Man{{Ver: 3, Segs: rising(n, 0, 7)}, {Ver: 3, Segs: rising(n, 4, 7), Size: 8, Sum: 9}}
		for _, m := range l {
			if n >= 1 && n <= 64 {
				may(t, m)
				get(t, whole(m), m, api.OK)
			} else {
				mayNot(t, m)
				refuse(t, whole(m), api.ErrForm)
			}
		}
	}
}

// P10.1: a text that is cut off at each of its bytes.
func TestCut(t *testing.T) {
	refuse(t, "", api.ErrShort)
	for _, m := range few() {
		s := whole(m)
		for cut := range len(s) {
			refuse(t, s[:cut], api.ErrShort)
		}
	}
}

// P10.1: a text with a byte of it turned, to each other one.
func TestTurned(t *testing.T) {
	for _, m := range few() {
		s := whole(m)
		from := len(s) - len(bodyOf(m)) - 4
		for i := range len(s) {
			for turn := 1; turn < 256; turn++ {
				turned := []byte(s)
				turned[i] ^= byte(turn)
				if i >= from {
					refuse(t, string(turned), api.ErrSum)
					continue
				}
				// How many bytes there are is another number now, or none.
				want, err := told(string(turned))
				if err == api.OK {
					t.Fatalf("%q is a manifest's", turned)
				}
				get(t, string(turned), want, err)
			}
		}
	}
}

// P10.1: a byte of the body turned, and the sum made of what is there then: another manifest, or none.
func TestTurnedBody(t *testing.T) {
	others, none := 0, 0
	for _, m := range few() {
		body := bodyOf(m)
		for i := range len(body) {
			for turn := 1; turn < 256; turn++ {
				turned := []byte(body)
				turned[i] ^= byte(turn)
				s := laid(string(turned), 0)
				want, err := told(s)
				get(t, s, want, err)
				if err == api.OK {
					others++
				} else {
					none++
				}
			}
		}
	}
	if others < 1000 || none < 1000 {
		t.Errorf("%d others, %d none", others, none)
	}
}

// P10.1: a text with bytes behind it, whatever they are.
func TestBehind(t *testing.T) {
	for _, m := range few() {
		s := whole(m)
		for b := range 256 {
			refuse(t, s+string([]byte{byte(b)}), api.ErrForm)
		}
		for _, behind := range []string{"\x00\x00", "text", "\x80\x80", strings.Repeat("\x00", 70000), s, whole(few()[0]), laid("a", 0), laid("a", 1)} {
			refuse(t, s+behind, api.ErrForm)
		}
		refuse(t, whole(few()[0])+s, api.ErrForm)
		refuse(t, "\x00"+s, api.ErrForm)
	}
}

// P10.1: all that layer 3's Next may tell, also where bytes stand behind it, or the body is none of a manifest.
func TestFrame(t *testing.T) {
	for _, s := range []string{"", "\x80", "\xff", strings.Repeat("\x80", 8), strings.Repeat("\xff", 8), "\x08", "\x08\x00\x00\x00\x00", number(api.MaxBody), number(api.MaxBody) + strings.Repeat("a", api.MaxBody+3), laid("\x01\x01", 1)[:6]} {
		refuse(t, s, api.ErrShort)
	}
	for _, m := range few() {
		body := bodyOf(m)
		s := laid(body, 0)
		for _, size := range []string{"\x00", "\x80\x00", number(api.MaxBody + 1), number(math.MaxInt), number(-1), strings.Repeat("\xff", 9), strings.Repeat("\x80", 9) + "\x01", longer(len(body), 1), longer(len(body), 2)} {
			for _, behind := range []string{"", "\x00", s, s[len(number(len(body))):], body} {
				refuse(t, size+behind, api.ErrForm)
			}
		}
		for bit := range 32 {
			for _, behind := range []string{"", "\x00", s} {
				refuse(t, laid(body, 1<<bit)+behind, api.ErrSum)
				refuse(t, laid("\x80", 1<<bit)+behind, api.ErrSum)
				refuse(t, laid(body[1:], 1<<bit)+behind, api.ErrSum)
			}
		}
	}
}

// P10.1: frames that are right, and whose body is none of a manifest.
func TestNoManifest(t *testing.T) {
	for _, body := range []string{"\x00", "\x01", "\x80", "\xff", "\x01\x01", "\x01\x01\x00", "\x01\x01\x00\x00", "\x01\x00\x00\x00\x00\x00\x00", "text", strings.Repeat("\x00", 8), strings.Repeat("\x01", 7), strings.Repeat("\x01", 9), strings.Repeat("\xff", 8), strings.Repeat("\xff", 400), strings.Repeat("\x80", 400)} {
		noMan(t, body)
	}
	for b := range 256 {
		noMan(t, string([]byte{byte(b)}))
		for n := range 3 {
			noMan(t, strings.Repeat(string([]byte{byte(b)}), api.MaxBody-n))
		}
	}
	for _, m := range few() {
		// A frame within a frame, and a body as long as may be.
		noMan(t, whole(m))
		noMan(t, bodyOf(m)+strings.Repeat("\x00", api.MaxBody-len(bodyOf(m))))
	}
}

// P10.1: each of a manifest's numbers in more bytes than it needs, or as none.
func TestNumberForm(t *testing.T) {
	for _, m := range few() {
		l := parts(m)
		numbers := append([]int{m.Ver, len(m.Segs)}, append(slices.Clone(m.Segs), m.Size)...)
		for i, n := range numbers {
			put := func(number string) string {
				other := slices.Clone(l)
				other[i] = number
				return strings.Join(other, "")
			}
			for more := 1; more < 10; more++ {
				noMan(t, put(longer(n, more)))
				noMan(t, put(strings.Repeat("\x80", more)+"\x00"))
			}
			noMan(t, put(strings.Repeat("\xff", 9)))
			noMan(t, put(strings.Repeat("\xff", 9)+"\x01"))
			noMan(t, put(strings.Repeat("\x80", 9)+"\x01"))
			// Without its bytes, or run into the next one's, it may be another manifest.
			for size := range 12 {
				s := laid(put(strings.Repeat("\xff", size)), 0)
				want, err := told(s)
				get(t, s, want, err)
			}
		}
	}
}

// P10.1: how many segments there are told: none, as many as may be and one more, far too many, more than there stand, or fewer.
func TestHowManyTold(t *testing.T) {
	counts := []int{0, 1, 2, 3, 4, 62, 63, 64, 65, 66, 127, 128, 255, 256, 1 << 16, 1 << 31, 1 << 32, 1<<32 + 1, 1 << 40, 1 << 62, math.MaxInt - 1, math.MaxInt}
	for _, there := range []int{0, 1, 2, 3, 63, 64, 65, 66} {
		for _, m := range []api.Man{{Ver: 5, Segs: rising(there, 0, 1)}, {Ver: 5, Segs: rising(there, 300, 200), Size: 300, Sum: math.MaxUint32}, {Ver: 5, Segs: rising(there, 1, 1), Size: 1, Sum: 0x01010101}} {
			l := parts(m)
			for _, n := range counts {
				if n == there && n >= 1 && n <= 64 {
					continue
				}
				l[1] = number(n)
				noMan(t, strings.Join(l, ""))
				noMan(t, strings.Join(l, "")+strings.Repeat("\x00", 100))
			}
		}
	}
	// One that is left out, and one that comes too much.
	for _, m := range few() {
		l := parts(m)
		for i := 2; i < 2+len(m.Segs); i++ {
			noMan(t, strings.Join(slices.Delete(slices.Clone(l), i, i+1), ""))
			noMan(t, strings.Join(slices.Insert(slices.Clone(l), i, l[i]), ""))
		}
	}
}

// P10.1: a body that ends within a number, between two, ahead of the Sum, or within it; and one that goes on behind it.
func TestBodyCut(t *testing.T) {
	for _, m := range few() {
		body := bodyOf(m)
		for cut := 1; cut < len(body); cut++ {
			noMan(t, body[:cut])
		}
		for b := range 256 {
			noMan(t, body+string([]byte{byte(b)}))
		}
		for n := 2; n < 9; n++ {
			noMan(t, body+strings.Repeat("\x00", n))
			noMan(t, body+strings.Repeat("\xff", n))
		}
		noMan(t, body+body)
		noMan(t, "\x00"+body)
		// Without its first bytes it may be another manifest.
		for cut := 1; cut < len(body); cut++ {
			s := laid(body[cut:], 0)
			want, err := told(s)
			get(t, s, want, err)
		}
	}
}

// P10.1: the Sum's bytes are any, the lowest first.
func TestSum(t *testing.T) {
	for place := range 4 {
		for b := range 256 {
			m := api.Man{Ver: 1, Segs: []int{1}, Size: 1, Sum: uint32(b) << (8 * place)}
			may(t, m)
			get(t, whole(m), m, api.OK)
			body := []byte("\x01\x01\x01\x01\x00\x00\x00\x00")
			body[4+place] = byte(b)
			get(t, laid(string(body), 0), m, api.OK)
			if m.Segs = []int{0}; b != 0 {
				mayNot(t, m)
				refuse(t, whole(m), api.ErrForm)
				m.Size = 0
				mayNot(t, m)
				refuse(t, whole(m), api.ErrForm)
			}
		}
	}
}

// some: a manifest of any numbers, most of which may be.
func some(r *rand.Rand) api.Man {
	m := api.Man{Ver: 1 + r.Intn(1<<r.Intn(41)), Segs: []int{r.Intn(1 << r.Intn(33))}}
	if r.Intn(2) == 0 {
		m.Segs[0] = 0
	}
	for range r.Intn(66) {
		m.Segs = append(m.Segs, m.Segs[len(m.Segs)-1]+1+r.Intn(1<<r.Intn(34)))
	}
	if m.Segs[0] > 0 {
		m.Size, m.Sum = 1+r.Intn(1<<r.Intn(17)), r.Uint32()>>r.Intn(32)
	}
	return m
}

// P10.1, P10.2: any manifests, right or with a fault, there and back.
func TestAny(t *testing.T) {
	r := rand.New(rand.NewSource(10))
	wrong := 0
	for range 30000 {
		m := some(r)
		switch r.Intn(12) {
		case 0:
			m.Ver = r.Intn(3) - 1
		case 1:
			m.Segs[r.Intn(len(m.Segs))] += r.Intn(9) - 4
		case 2:
			m.Size = r.Intn(3)
		case 3:
			m.Sum = uint32(r.Intn(2))
		case 4:
			r.Shuffle(len(m.Segs), func(i, j int) { m.Segs[i], m.Segs[j] = m.Segs[j], m.Segs[i] })
		}
		if right(m) {
			may(t, m)
			get(t, whole(m), m, api.OK)
			continue
		}
		wrong++
		mayNot(t, m)
		refuse(t, whole(m), api.ErrForm)
	}
	if wrong < 3000 || wrong > 20000 {
		t.Errorf("of 30000 manifests %d may not be", wrong)
	}
}

// P10.2: what is told was put in the one way there is, of whatever texts.
func TestOneWay(t *testing.T) {
	r := rand.New(rand.NewSource(11))
	there := 0
	for range 30000 {
		body := []byte(bodyOf(some(r)))
		for range r.Intn(3) {
			body[r.Intn(min(len(body), 12))] = byte(r.Intn(256))
		}
		s := laid(string(body), 0)
		want, err := told(s)
		get(t, s, want, err)
		m, err := Get(s)
		if err != api.OK {
			continue
		}
		there++
		if back, err := Put(m); back != s || err != api.OK || !Right(m) {
			t.Fatalf("Get(%q) = %v, which is put as %q, %d", s, m, back, err)
		}
	}
	if there < 3000 || there > 27000 {
		t.Errorf("of 30000 texts %d are manifests'", there)
	}
}

// P10.1: any texts.
func TestAnyText(t *testing.T) {
	r := rand.New(rand.NewSource(12))
	for range 30000 {
		l := make([]byte, 1+r.Intn(40))
		for i := range l {
			l[i] = byte(r.Intn(1 << (1 + r.Intn(8))))
		}
		want, err := told(string(l))
		get(t, string(l), want, err)
		s := laid(string(l), 0)
		want, err = told(s)
		get(t, s, want, err)
	}
}

// P10.1: what is handed in stays as it was, its spare room too.
func TestNothingChanged(t *testing.T) {
	for _, m := range slices.Concat(few(), wrong(), wrongBelow()) {
		n := len(m.Segs)
		room := slices.Concat(m.Segs, []int{-7, 0, 3, 1 << 50})
		was := slices.Clone(room)
		m.Segs = room[:n]
		Right(m)
		Put(m)
		if !slices.Equal(room, was) {
			t.Errorf("of %v the room is %v", m, room)
		}
	}
}

// P10.1, P10.2: the same again answers the same, whatever was asked between; what was told stays, and is its own.
func TestNothingKept(t *testing.T) {
	for _, m := range few() {
		want := copied(m)
		s, _ := Put(m)
		first, _ := Get(s)
		second, _ := Get(s)
		for range 3 {
			for _, other := range few() {
				may(t, other)
				get(t, whole(other), other, api.OK)
			}
			mayNot(t, api.Man{Ver: 1})
			refuse(t, s+"a", api.ErrForm)
			noMan(t, bodyOf(m)+"a")
		}
		if s != whole(want) || !same(first, want) || !same(second, want) {
			t.Errorf("what was told of %v has changed", want)
		}
		// Lists may be changed by whom they were told to, or by whom they were handed in.
		first.Segs[0], m.Segs[0] = -1, -2
		if s != whole(want) || !same(second, want) {
			t.Errorf("of %v lists are shared", want)
		}
		get(t, s, want, api.OK)
	}
}
