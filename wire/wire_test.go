package wire

import (
	"encoding/binary"
	"hash/crc32"
	"math"
	"math/rand"
	"reflect"
	"slices"
	"strings"
	"testing"

	"wagoner/api"
	"wagoner/frame"
)

// offsets: the greatest one that may be, also of lives, and of times.
const offsets = 1 << 40

// below: numbers that are less than 0.
var below = []int{-1, -2, -7, -127, -128, math.MinInt32, -offsets, -1 << 62, math.MinInt + 1, math.MinInt}

// beyond: how far numbers are above what may be.
var beyond = []int{1, 2, 7, 127, 128, 1 << 32, offsets, 1 << 62}

// sums: of a chunk, none of which may not be.
var sums = []uint32{0, 1, 0x7f, 0x80, 0xff, 0x100, 0x8000, 0x12345678, 0x80808080, 0x80000000, math.MaxUint32 - 1, math.MaxUint32}

// fields: a message's numbers, by their names.
var fields = []struct {
	name string
	of   func(m *api.Msg) *int
}{
	{"Kind", func(m *api.Msg) *int { return &m.Kind }},
	{"From", func(m *api.Msg) *int { return &m.From }},
	{"To", func(m *api.Msg) *int { return &m.To }},
	{"Inc", func(m *api.Msg) *int { return &m.Inc }},
	{"Peer", func(m *api.Msg) *int { return &m.Peer }},
	{"Seq", func(m *api.Msg) *int { return &m.Seq }},
	{"At", func(m *api.Msg) *int { return &m.At }},
	{"Window", func(m *api.Msg) *int { return &m.Window }},
	{"High", func(m *api.Msg) *int { return &m.High }},
	{"Want", func(m *api.Msg) *int { return &m.Want }},
	{"Index", func(m *api.Msg) *int { return &m.Index }},
	{"Size", func(m *api.Msg) *int { return &m.Size }},
}

// with: the message with another number in that field.
func with(m api.Msg, name string, n int) api.Msg {
	for _, f := range fields {
		if f.name == name {
			*f.of(&m) = n
			return m
		}
	}
	panic(name)
}

// bounds: from where to where the field may be, by the chapter's words, as m's other fields are; and whether it is named for m's Kind.
func bounds(m api.Msg, name string) (int, int, bool) {
	switch name {
	case "From", "To":
		return 0, 7, true
	case "Inc":
		return 1, offsets, true
	case "Peer", "Seq", "At":
		return 0, offsets, true
	}
	switch {
	case m.Kind == 1 && (name == "Window" || name == "Index"):
		return 0, 65536, true
	case m.Kind == 1 && name == "Want", m.Kind == 2 && name == "High":
		return 0, offsets, true
	case m.Kind == 3 && name == "Size":
		return 1, 65536, true
	case m.Kind == 3 && name == "Index":
		return 0, m.Size, true
	}
	return 0, 0, false
}

// right: may the message be, by the chapter's words?
func right(m api.Msg) bool {
	if m.Kind < 1 || m.Kind > 3 || m.From == m.To {
		return false
	}
	for _, f := range fields[1:] {
		if low, high, _ := bounds(m, f.name); *f.of(&m) < low || *f.of(&m) > high {
			return false
		}
	}
	if m.Kind != 3 && (m.Sum != 0 || m.Data != "") || len(m.Data) > 4096 {
		return false
	}
	if m.Kind != 2 && len(m.Recs) > 0 || len(m.Recs) > 64 {
		return false
	}
	next := m.At
	for _, r := range m.Recs {
		if r.At != next || r.At > offsets || r.Time < 0 || r.Time > offsets || len(r.Data) > 64 {
			return false
		}
		next++
	}
	return true
}

// number: the bytes of n.
func number(n int) string {
	return string(binary.AppendUvarint(nil, uint64(n)))
}

// longer: the bytes of n, and so many more than it needs.
func longer(n, more int) string {
	s := []byte(number(n))
	for range more {
		s[len(s)-1] += 128
		s = append(s, 0)
	}
	return string(s)
}

// four: the four bytes of a sum, the lowest first.
func four(sum uint32) string {
	return string(binary.LittleEndian.AppendUint32(nil, sum))
}

// laid: the frame of a body, by chapter 3; its sum turned by turn.
func laid(body string, turn uint32) string {
	n := number(len(body))
	return n + four(crc32.Checksum([]byte(n+body), crc32.MakeTable(crc32.Castagnoli))^turn) + body
}

// part is a field in a body: a number, or just bytes.
type part struct {
	isNumber bool
	n        int
	s        string
}

// nums: fields that are numbers.
func nums(l ...int) []part {
	var parts []part
	for _, n := range l {
		parts = append(parts, part{isNumber: true, n: n, s: number(n)})
	}
	return parts
}

// parts: the fields of a message's body, one behind the other, by the chapter's words, whether it may be or not.
func parts(m api.Msg) []part {
	l := nums(m.Kind, m.From, m.To, m.Inc, m.Peer, m.Seq, m.At)
	switch m.Kind {
	case 1:
		l = append(l, nums(m.Window, m.Want, m.Index)...)
	case 2:
		l = append(l, nums(m.High, len(m.Recs))...)
		for _, r := range m.Recs {
			l = append(append(l, nums(r.Time, len(r.Data))...), part{s: r.Data})
		}
	case 3:
		l = append(append(l, nums(m.Size, m.Index)...), part{s: four(m.Sum)}, part{s: m.Data})
	}
	return l
}

// joined: the bytes of fields, one behind the other.
func joined(l []part) string {
	var s strings.Builder
	for _, p := range l {
		s.WriteString(p.s)
	}
	return s.String()
}

// bodyOf: a message's body, by the chapter's words, whether it may be or not.
func bodyOf(m api.Msg) string {
	return joined(parts(m))
}

// whole: a message's bytes, by the chapter's words, whether it may be or not.
func whole(m api.Msg) string {
	return laid(bodyOf(m), 0)
}

// rough: the fields that stand in a body, taken without a look at whether they are rightly written; what isn't there is 0, or empty.
func rough(body string) api.Msg {
	l := []byte(body)
	take := func() int {
		n, size := binary.Uvarint(l)
		l = l[max(size, 0):]
		return int(n)
	}
	text := func(n int) string {
		n = min(max(n, 0), len(l))
		s := string(l[:n])
		l = l[n:]
		return s
	}
	var m api.Msg
	for _, f := range fields[:7] {
		*f.of(&m) = take()
	}
	switch m.Kind {
	case 1:
		m.Window = take()
		m.Want = take()
		m.Index = take()
	case 2:
		m.High = take()
		for i := range min(uint(take()), 100) {
			time := take()
			m.Recs = append(m.Recs, api.Rec{At: m.At + int(i), Time: time, Data: text(take())})
		}
	case 3:
		m.Size = take()
		m.Index = take()
		var sum [4]byte
		copy(sum[:], text(4))
		m.Sum = binary.LittleEndian.Uint32(sum[:])
		m.Data = text(len(l))
	}
	return m
}

// told: what Get tells, by the chapter's words: is s just what the fields that stand there are put as?
func told(s string) (api.Msg, api.Errno) {
	body, _, err := frame.Next(s, 0)
	if err != api.OK {
		return api.Msg{}, err
	}
	if m := rough(body); right(m) && whole(m) == s {
		return m, api.OK
	}
	return api.Msg{}, api.ErrForm
}

// alike: are the messages the same in all fields?
func alike(a, b api.Msg) bool {
	sameRecs := slices.Equal(a.Recs, b.Recs)
	a.Recs, b.Recs = nil, nil
	return sameRecs && reflect.DeepEqual(a, b)
}

// copied: a message that shares nothing with m.
func copied(m api.Msg) api.Msg {
	m.Recs = slices.Clone(m.Recs)
	return m
}

// recs: so many records from that offset on, of several times, and of data of several lengths.
func recs(n, at int) []api.Rec {
	var l []api.Rec
	times := []int{0, 9, 127, 128, 1 << 20, offsets - 1, offsets}
	for i := range n {
		l = append(l, api.Rec{At: at + i, Time: times[i%len(times)], Data: strings.Repeat(string([]byte{byte(i * 5)}), i%65)})
	}
	return l
}

// fetch, batch and chunk: a message of each Kind, whose numbers may all be changed alone.
func fetch() api.Msg {
	return api.Msg{Kind: api.MsgFetch, From: 3, To: 5, Inc: 4, Peer: 130, Seq: 7, At: 300, Window: 100, Want: 9, Index: 8}
}

func batch() api.Msg {
	return api.Msg{Kind: api.MsgBatch, From: 3, To: 5, Inc: 4, Peer: 130, Seq: 7, At: 300, High: 290}
}

func chunk() api.Msg {
	return api.Msg{Kind: api.MsgChunk, From: 3, To: 5, Inc: 4, Peer: 130, Seq: 7, At: 300, Size: 40000, Index: 12, Sum: 0x12345678, Data: "some bytes"}
}

// few: some messages that may be, and are unlike.
func few() []api.Msg {
	l := []api.Msg{fetch(), batch(), chunk(),
		{Kind: api.MsgFetch, From: 1, Inc: 1, Seq: 1, Window: 100},
		{Kind: api.MsgFetch, From: 7, Inc: offsets, Peer: offsets, Seq: offsets, At: offsets, Window: 65536, Want: offsets, Index: 65536},
		{Kind: api.MsgFetch, To: 7, Inc: 1},
		{Kind: api.MsgBatch, To: 1, Inc: 1},
		{Kind: api.MsgBatch, To: 1, Inc: 2, Peer: 3, Seq: 4, At: 5, High: 6, Recs: []api.Rec{{At: 5, Time: 7, Data: "eight"}}},
		{Kind: api.MsgBatch, From: 6, To: 7, Inc: offsets, Peer: offsets, Seq: offsets, At: offsets, High: offsets, Recs: recs(1, offsets)},
		{Kind: api.MsgBatch, To: 2, Inc: 300, Seq: 128, Recs: []api.Rec{{}, {At: 1, Data: "\x00"}, {At: 2, Time: offsets, Data: strings.Repeat("\xff", 64)}, {At: 3}}},
		{Kind: api.MsgChunk, To: 1, Inc: 1, Size: 1},
		{Kind: api.MsgChunk, To: 3, Inc: 1, Peer: 2, Seq: 3, At: 4, Size: 5, Index: 1, Sum: 6, Data: "\x01k\x012"},
		{Kind: api.MsgChunk, From: 7, Inc: offsets, Peer: offsets, Seq: offsets, At: offsets, Size: 65536, Index: 65536, Sum: math.MaxUint32, Data: "\xff\x00\x80"},
	}
	return l
}

// long: messages as long as may be, of the kinds that may be long.
func long() []api.Msg {
	b := api.Msg{Kind: api.MsgBatch, From: 6, To: 7, Inc: offsets, Peer: offsets, Seq: offsets, At: offsets - 63, High: offsets}
	for i := range 64 {
		b.Recs = append(b.Recs, api.Rec{At: b.At + i, Time: offsets, Data: strings.Repeat("\x80", 64)})
	}
	c := few()[12]
	c.Data = strings.Repeat("\x9c\x00", 2048)
	d := batch()
	d.Recs = recs(64, d.At)
	return []api.Msg{b, c, d}
}

// some: a message of any numbers, that may be.
func some(r *rand.Rand) api.Msg {
	upTo := func(most int) int { return min(r.Intn(most+1), r.Intn(2<<r.Intn(41))) }
	m := api.Msg{Kind: 1 + r.Intn(3), From: r.Intn(8), To: r.Intn(7), Inc: 1 + upTo(offsets-1), Peer: upTo(offsets), Seq: upTo(offsets), At: upTo(offsets)}
	if m.To >= m.From {
		m.To++
	}
	switch m.Kind {
	case 1:
		m.Window, m.Want, m.Index = upTo(65536), upTo(offsets), upTo(65536)
	case 2:
		m.High = upTo(offsets)
		for i := range min(r.Intn(1<<r.Intn(7)+1), offsets-m.At+1) {
			m.Recs = append(m.Recs, api.Rec{At: m.At + i, Time: upTo(offsets), Data: bytesOf(r, upTo(64))})
		}
	case 3:
		m.Size = 1 + upTo(65535)
		m.Index, m.Sum, m.Data = upTo(m.Size), r.Uint32()>>r.Intn(33), bytesOf(r, upTo(4096))
	}
	return m
}

// bytesOf: so many bytes.
func bytesOf(r *rand.Rand, n int) string {
	l := make([]byte, n)
	r.Read(l)
	return string(l)
}

// short: a text, for what a failed test tells.
func short(s string) string {
	if len(s) > 40 {
		return s[:40] + ".."
	}
	return s
}

// may fails the test unless the message may be, is put as the chapter says, and comes back.
func may(t *testing.T, m api.Msg) {
	t.Helper()
	if !right(m) {
		t.Fatalf("%v isn't one that may be", m)
	}
	want := whole(m)
	if s, err := Put(m); !Right(m) || s != want || err != api.OK {
		t.Errorf("of %v: Right %v, Put %q, %d, want true, %q, 0", m, Right(m), short(s), err, short(want))
	}
	get(t, want, m, api.OK)
}

// mayNot fails the test unless the message may not be.
func mayNot(t *testing.T, m api.Msg) {
	t.Helper()
	if right(m) {
		t.Fatalf("%v is one that may be", m)
	}
	if s, err := Put(m); Right(m) || s != "" || err != api.ErrArg {
		t.Errorf("of %v: Right %v, Put %q, %d, want false, none, %d", m, Right(m), short(s), err, api.ErrArg)
	}
}

// none fails the test unless the message may not be, nor its bytes are any message's. (Those of a message one of whose fields isn't named for its Kind may be another one's.)
func none(t *testing.T, m api.Msg) {
	t.Helper()
	mayNot(t, m)
	refuse(t, whole(m), api.ErrForm)
}

// get fails the test unless Get tells just that message and that error.
func get(t *testing.T, s string, want api.Msg, wantErr api.Errno) {
	t.Helper()
	if m, err := Get(s); !alike(m, want) || err != wantErr {
		t.Errorf("Get(%q) (%d bytes) = %v, %d, want %v, %d", short(s), len(s), m, err, want, wantErr)
	}
}

// refuse fails the test unless Get tells just that error.
func refuse(t *testing.T, s string, want api.Errno) {
	t.Helper()
	get(t, s, api.Msg{}, want)
}

// noMsg fails the test unless Get tells ErrForm of the body's frame.
func noMsg(t *testing.T, body string) {
	t.Helper()
	refuse(t, laid(body, 0), api.ErrForm)
}

// asTold fails the test unless Get tells of the body's frame what the chapter says; is it a message's?
func asTold(t *testing.T, body string) bool {
	t.Helper()
	s := laid(body, 0)
	want, err := told(s)
	get(t, s, want, err)
	return err == api.OK
}

// isBytes fails the test unless that is the message's bytes, and it comes back from them.
func isBytes(t *testing.T, m api.Msg, want string) {
	t.Helper()
	if s, err := Put(m); s != want || err != api.OK {
		t.Errorf("Put = %q, %d, want %q, 0", s, err, want)
	}
	get(t, want, m, api.OK)
}

// P16.1: the chapter's example, byte by byte.
func TestExample(t *testing.T) {
	m := api.Msg{Kind: api.MsgFetch, From: 1, To: 0, Inc: 1, Seq: 1, At: 0, Window: 100}
	isBytes(t, m, "\x0a\x19\x7b\x65\xfa\x01\x01\x00\x01\x00\x01\x00\x64\x00\x00")
}

// P16.1: a message of each Kind, byte by byte: no two fields are alike.
func TestBytes(t *testing.T) {
	f := api.Msg{Kind: api.MsgFetch, From: 2, To: 3, Inc: 4, Peer: 5, Seq: 6, At: 7, Window: 8, Want: 9, Index: 300}
	isBytes(t, f, "\x0b\x9e\x92\x46\x1b\x01\x02\x03\x04\x05\x06\x07\x08\x09\xac\x02")
	b := api.Msg{Kind: api.MsgBatch, From: 1, To: 3, Inc: 4, Peer: 5, Seq: 6, At: 7, High: 8, Recs: []api.Rec{{At: 7, Time: 9, Data: "ab"}, {At: 8, Time: 300}}}
	isBytes(t, b, "\x10\xdd\x62\x17\x96\x02\x01\x03\x04\x05\x06\x07\x08\x02\x09\x02ab\xac\x02\x00")
	c := api.Msg{Kind: api.MsgChunk, From: 1, To: 2, Inc: 4, Peer: 5, Seq: 6, At: 7, Size: 300, Index: 8, Sum: 0x12345678, Data: "ab"}
	isBytes(t, c, "\x10\x22\x42\x05\x47\x03\x01\x02\x04\x05\x06\x07\xac\x02\x08\x78\x56\x34\x12ab")
}

// P16.1, P16.2: messages that may be, there and back.
func TestThereAndBack(t *testing.T) {
	for _, m := range append(few(), long()...) {
		may(t, m)
		s, _ := Put(m)
		get(t, s, m, api.OK)
	}
}

// P16.1: each number at the first and the last that may be, and beyond these.
func TestNumbers(t *testing.T) {
	for _, m := range []api.Msg{fetch(), batch(), chunk()} {
		for _, f := range fields[1:] {
			if f.name == "Size" {
				m.Index = 0
			}
			low, high, named := bounds(m, f.name)
			if !named {
				continue
			}
			for _, n := range []int{low, low + 1, high / 3, high - 1, high} {
				may(t, with(m, f.name, n))
			}
			none(t, with(m, f.name, low-1))
			for _, n := range below {
				none(t, with(m, f.name, n))
			}
			for _, n := range beyond {
				none(t, with(m, f.name, high+n))
			}
			none(t, with(m, f.name, math.MaxInt))
		}
	}
}

// P16.1: each number at each length that its bytes may have.
func TestLengths(t *testing.T) {
	for _, m := range []api.Msg{fetch(), batch(), chunk()} {
		for _, f := range fields[1:] {
			if f.name == "Size" {
				m.Index = 0
			}
			low, high, _ := bounds(m, f.name)
			for bits := range 42 {
				for _, n := range []int{1<<bits - 1, 1 << bits, 1<<bits + 1} {
					if n >= low && n <= high && n != m.From && n != m.To {
						may(t, with(m, f.name, n))
					}
				}
			}
		}
	}
}

// P16.1: Kinds, those that there are, and all others.
func TestKinds(t *testing.T) {
	plain := api.Msg{From: 1, Inc: 1}
	others := append(slices.Clone(below), 0, 4, 5, 64, 127, 128, 129, 130, 131, 255, 256, 257, 258, 259, 1<<16, 1<<32+1, 1<<32+2, 1<<32+3, offsets, 1<<62+1, math.MaxInt)
	for _, m := range append(few(), plain) {
		for _, kind := range others {
			m.Kind = kind
			none(t, m)
			// With all that stands behind it in a message of each Kind.
			for _, other := range few() {
				noMsg(t, number(kind)+bodyOf(other)[1:])
			}
		}
	}
	// Without any field of its own a fetch may be, and a batch, and a chunk just if it has a Size.
	may(t, with(plain, "Kind", 1))
	may(t, with(plain, "Kind", 2))
	none(t, with(plain, "Kind", 3))
	may(t, with(with(plain, "Kind", 3), "Size", 1))
	mayNot(t, api.Msg{})
	refuse(t, whole(api.Msg{}), api.ErrForm)
}

// P16.1: who sends it, and who gets it: each pair, alike and unlike.
func TestFromTo(t *testing.T) {
	for _, m := range few() {
		for m.From = -2; m.From < 11; m.From++ {
			for m.To = -2; m.To < 11; m.To++ {
				if m.From >= 0 && m.From <= 7 && m.To >= 0 && m.To <= 7 && m.From != m.To {
					may(t, m)
				} else {
					none(t, m)
				}
			}
		}
	}
}

// P16.1: for each Kind each field that isn't named for it.
func TestNotNamed(t *testing.T) {
	checked := 0
	for _, m := range few() {
		for _, f := range fields[1:] {
			if _, _, named := bounds(m, f.name); named {
				continue
			}
			checked++
			for _, n := range append(slices.Clone(below), 1, 2, 100, 65536, offsets, math.MaxInt) {
				mayNot(t, with(m, f.name, n))
			}
		}
		if m.Kind != api.MsgChunk {
			for _, sum := range sums[1:] {
				other := m
				other.Sum = sum
				mayNot(t, other)
			}
			for _, data := range []string{"a", "\x00", strings.Repeat("a", 4096), strings.Repeat("a", 4097)} {
				other := m
				other.Data = data
				mayNot(t, other)
			}
		}
		if m.Kind != api.MsgBatch {
			for n := 1; n < 67; n++ {
				other := m
				other.Recs = recs(n, m.At)
				mayNot(t, other)
			}
			m.Recs = []api.Rec{}
			may(t, m)
			m.Recs = []api.Rec{{}}
			mayNot(t, m)
		}
	}
	// Of a fetch two, of a batch four, of a chunk three.
	if want := 4*2 + 5*4 + 4*3; checked != want {
		t.Errorf("%d fields were set, want %d", checked, want)
	}
}

// P16.1: how many records there are, none (in a list, or without one) and one, as many as may be and one more.
func TestHowMany(t *testing.T) {
	for n := range 200 {
		for _, at := range []int{0, 1, 100, 300, offsets - 300} {
			m := batch()
			m.At, m.Recs = at, recs(n, at)
			if n <= 64 {
				may(t, m)
			} else {
				none(t, m)
			}
			m.Recs = make([]api.Rec, n)
			for i := range m.Recs {
				m.Recs[i].At = at + i
			}
			if n <= 64 {
				may(t, m)
			} else {
				none(t, m)
			}
		}
	}
	for _, l := range [][]api.Rec{nil, {}, make([]api.Rec, 0, 9), recs(3, 0)[:0]} {
		m := batch()
		m.Recs = l
		may(t, m)
		s, err := Put(m)
		if back, _ := Get(s); len(back.Recs) != 0 || err != api.OK {
			t.Errorf("of no records there come back %v, %d", back.Recs, err)
		}
	}
}

// P16.1: records that may not be, each alone, at each place of a batch.
func TestWrongRecords(t *testing.T) {
	for _, n := range []int{1, 2, 3, 64} {
		for place := range n {
			m := batch()
			change := func(change func(r *api.Rec)) api.Msg {
				m.Recs = recs(n, m.At)
				change(&m.Recs[place])
				return m
			}
			for _, time := range []int{0, 1, 1 << 39, offsets - 1, offsets} {
				may(t, change(func(r *api.Rec) { r.Time = time }))
			}
			for _, time := range append([]int{offsets + 1, offsets + 2, 1 << 62, math.MaxInt}, below...) {
				none(t, change(func(r *api.Rec) { r.Time = time }))
			}
			for _, size := range []int{0, 1, 63, 64, 65, 66, 127, 128, 4096} {
				other := change(func(r *api.Rec) { r.Data = strings.Repeat("\x80", size) })
				if size <= 64 {
					may(t, other)
				} else {
					none(t, other)
				}
			}
		}
	}
}

// P16.1: a record whose offset isn't the next one, at each place of a batch. (Its bytes are none the less another batch's.)
func TestRecordsInARow(t *testing.T) {
	for _, n := range []int{1, 2, 3, 64} {
		for place := range n {
			for _, step := range []int{-300, -64, -2, -1, 1, 2, 64, 300, 1 << 32, offsets, math.MaxInt - 400, math.MinInt} {
				m := batch()
				m.Recs = recs(n, m.At)
				m.Recs[place].At += step
				mayNot(t, m)
				// From there on all of them.
				m.Recs = append(recs(place, m.At), recs(n-place, m.At+place+step)...)
				mayNot(t, m)
			}
		}
	}
	m := batch()
	m.Recs = recs(4, m.At)
	slices.Reverse(m.Recs)
	mayNot(t, m)
	m.Recs = slices.Repeat(recs(1, m.At), 2)
	mayNot(t, m)
	m.Recs = slices.Delete(recs(4, m.At), 1, 2)
	mayNot(t, m)
	m.Recs = recs(4, m.At)
	may(t, m)
	m.At++
	mayNot(t, m)
}

// P16.1: records up to the last offset that may be, and beyond it.
func TestLastOffset(t *testing.T) {
	for n := range 70 {
		for ahead := range 70 {
			m := batch()
			m.At = offsets - ahead
			m.Recs = recs(n, m.At)
			if n <= 64 && n <= ahead+1 {
				may(t, m)
			} else {
				none(t, m)
			}
		}
	}
	for _, at := range append([]int{offsets + 1, math.MaxInt - 1, math.MaxInt}, below...) {
		for _, n := range []int{0, 1, 3, 64} {
			m := batch()
			m.At, m.Recs = at, recs(n, at)
			none(t, m)
		}
	}
}

// P16.1: how many bytes a chunk's snapshot has, and where its data are in it: Index up to Size.
func TestSizeIndex(t *testing.T) {
	sizes := []int{1, 2, 3, 127, 128, 300, 4096, 16383, 16384, 65535, 65536}
	for _, size := range append(slices.Clone(sizes), 0, 65537, 65538, 1<<32+1, offsets, math.MaxInt-2) {
		m := chunk()
		m.Size = size
		for _, index := range append([]int{0, 1, size / 2, size - 2, size - 1, size, size + 1, size + 2, 65536, 65537, offsets, math.MaxInt}, below...) {
			m.Index = index
			if slices.Contains(sizes, size) && index >= 0 && index <= size {
				may(t, m)
			} else {
				none(t, m)
			}
		}
	}
	for _, size := range below {
		for _, index := range []int{0, 1, -1, size} {
			m := chunk()
			m.Size, m.Index = size, index
			none(t, m)
		}
	}
}

// P16.1: how many bytes of data a chunk has, whatever its Size and Index are.
func TestData(t *testing.T) {
	for _, n := range []int{0, 1, 2, 3, 4, 127, 128, 4094, 4095, 4096, 4097, 4098, 8192, 65000} {
		for _, b := range []string{"\x00", "a", "\x80", "\xff"} {
			for _, size := range []int{1, 5, 65536} {
				for _, index := range []int{0, size} {
					m := chunk()
					m.Size, m.Index, m.Data = size, index, strings.Repeat(b, n)
					if n <= 4096 {
						may(t, m)
					} else {
						none(t, m)
					}
				}
			}
		}
	}
	m := chunk()
	m.Data = strings.Repeat("a", 65537)
	mayNot(t, m)
	for b := range 256 {
		m.Data = string([]byte{byte(b)})
		may(t, m)
		other := batch()
		other.Recs = []api.Rec{{At: other.At, Data: m.Data}}
		may(t, other)
	}
}

// P16.1: a chunk's Sum is any, its bytes the lowest first.
func TestSum(t *testing.T) {
	m := chunk()
	for _, m.Sum = range sums {
		may(t, m)
	}
	for place := range 4 {
		for b := range 256 {
			m.Sum = uint32(b) << (8 * place)
			may(t, m)
		}
	}
}

// P16.1, P16.2: a text that is cut off at each of its bytes.
func TestCut(t *testing.T) {
	refuse(t, "", api.ErrShort)
	for _, m := range append(few(), long()...) {
		s := whole(m)
		for cut := range len(s) {
			refuse(t, s[:cut], api.ErrShort)
		}
	}
}

// P16.1, P16.2: a text with a byte of it turned, to each other one.
func TestTurned(t *testing.T) {
	turn := func(s string, i, by int) string {
		turned := []byte(s)
		turned[i] ^= byte(by)
		return string(turned)
	}
	for _, m := range few() {
		s := whole(m)
		from := len(s) - len(bodyOf(m)) - 4
		for i := range len(s) {
			for by := 1; by < 256; by++ {
				turned := turn(s, i, by)
				if i >= from {
					refuse(t, turned, api.ErrSum)
					continue
				}
				// How many bytes there are is another number now, or none.
				want, err := told(turned)
				if err == api.OK {
					t.Fatalf("%q is a message's", turned)
				}
				get(t, turned, want, err)
			}
		}
	}
	for _, m := range long() {
		s := whole(m)
		for i := len(s) - len(bodyOf(m)); i < len(s); i++ {
			refuse(t, turn(s, i, 1<<(i%8)), api.ErrSum)
		}
	}
}

// P16.1: a byte of the body turned, and the sum made of what is there then: another message, or none.
func TestTurnedBody(t *testing.T) {
	others, none := 0, 0
	for _, m := range few() {
		body := bodyOf(m)
		for i := range len(body) {
			for turn := 1; turn < 256; turn++ {
				turned := []byte(body)
				turned[i] ^= byte(turn)
				if asTold(t, string(turned)) {
					others++
				} else {
					none++
				}
			}
		}
	}
	if others < 1000 || none < 1000 {
		t.Errorf("%d others, %d none", others, none)
	}
}

// P16.1: a text with bytes behind it, or ahead of it, whatever they are.
func TestBehind(t *testing.T) {
	for _, m := range append(few(), long()...) {
		s := whole(m)
		for b := range 256 {
			refuse(t, s+string([]byte{byte(b)}), api.ErrForm)
		}
		for _, behind := range []string{"\x00\x00", "text", "\x80\x80", strings.Repeat("\x00", 70000), s, whole(few()[0]), laid("a", 0), laid("a", 1)} {
			refuse(t, s+behind, api.ErrForm)
		}
		refuse(t, whole(few()[0])+s, api.ErrForm)
		refuse(t, "\x00"+s, api.ErrForm)
	}
}

// P16.1: all that layer 3's Next may tell, also where bytes stand behind it, or the body is no message's.
func TestFrame(t *testing.T) {
	for _, s := range []string{"", "\x80", "\xff", strings.Repeat("\x80", 8), strings.Repeat("\xff", 8), "\x08", "\x08\x00\x00\x00\x00", number(api.MaxBody), number(api.MaxBody) + strings.Repeat("a", api.MaxBody+3), laid("\x01\x01", 1)[:6]} {
		refuse(t, s, api.ErrShort)
	}
	for _, m := range few() {
		body := bodyOf(m)
		s := laid(body, 0)
		for _, size := range []string{"\x00", "\x80\x00", number(api.MaxBody + 1), number(math.MaxInt), number(-1), strings.Repeat("\xff", 9), strings.Repeat("\x80", 9) + "\x01", longer(len(body), 1), longer(len(body), 2)} {
			for _, behind := range []string{"", "\x00", s, s[len(number(len(body))):], body} {
				refuse(t, size+behind, api.ErrForm)
			}
		}
		for bit := range 32 {
			for _, behind := range []string{"", "\x00", s} {
				refuse(t, laid(body, 1<<bit)+behind, api.ErrSum)
				refuse(t, laid("\x80", 1<<bit)+behind, api.ErrSum)
				refuse(t, laid(body[1:], 1<<bit)+behind, api.ErrSum)
			}
		}
	}
}

// P16.1: frames that are right, and whose body is no message's.
func TestNoMessage(t *testing.T) {
	for _, body := range []string{"\x00", "\x01", "\x02", "\x03", "\x04", "\x80", "\xff", "\x01\x01", "\x02\x00\x01\x01\x00\x00\x00", "text", strings.Repeat("\x00", 10), strings.Repeat("\x01", 10), strings.Repeat("\x01", 9), strings.Repeat("\xff", 8), strings.Repeat("\xff", 400), strings.Repeat("\x80", 400)} {
		noMsg(t, body)
	}
	for b := range 256 {
		noMsg(t, string([]byte{byte(b)}))
		for n := range 3 {
			noMsg(t, strings.Repeat(string([]byte{byte(b)}), api.MaxBody-n))
		}
	}
	for _, m := range few() {
		// A frame within a frame, and a body as long as may be.
		noMsg(t, whole(m))
		noMsg(t, bodyOf(m)+strings.Repeat("\x00", api.MaxBody-len(bodyOf(m))))
	}
}

// P16.1: each of a message's numbers in more bytes than it needs, as none, cut off, or too great.
func TestNumberForm(t *testing.T) {
	for _, m := range append(few(), long()[2]) {
		l := parts(m)
		for i, p := range l {
			if !p.isNumber {
				continue
			}
			put := func(number string) string {
				other := slices.Clone(l)
				other[i].s = number
				return joined(other)
			}
			for more := 1; more < 10; more++ {
				noMsg(t, put(longer(p.n, more)))
				noMsg(t, put(strings.Repeat("\x80", more)+"\x00"))
			}
			noMsg(t, put(strings.Repeat("\xff", 9)))
			noMsg(t, put(strings.Repeat("\xff", 9)+"\x01"))
			noMsg(t, put(strings.Repeat("\x80", 9)+"\x01"))
			for _, n := range []int{offsets + 1, offsets + 2, 1 << 62, math.MaxInt - 1, math.MaxInt} {
				noMsg(t, put(number(n)))
			}
			// Cut off: it is the last one, and goes on, or isn't there.
			for size := range 10 {
				if body := joined(l[:i]) + strings.Repeat("\x80", size); body != "" {
					noMsg(t, body)
				}
			}
			// Without its bytes, or run into the next one's, it may be another message.
			for size := range 12 {
				asTold(t, put(strings.Repeat("\xff", size)))
			}
		}
	}
}

// P16.1: each of a message's numbers told as another one: another message, or none.
func TestOtherNumber(t *testing.T) {
	others, none := 0, 0
	for _, m := range few() {
		l := parts(m)
		for i, p := range l {
			if !p.isNumber {
				continue
			}
			for _, n := range []int{0, 1, 2, 3, 4, 5, 6, 7, 8, 63, 64, 65, 127, 128, 4096, 65535, 65536, 65537, 1 << 32, offsets - 1, offsets} {
				other := slices.Clone(l)
				other[i] = nums(n)[0]
				if asTold(t, joined(other)) {
					others++
				} else {
					none++
				}
			}
		}
	}
	if others < 300 || none < 300 {
		t.Errorf("%d others, %d none", others, none)
	}
}

// P16.1: how many records there are told: as many as may be and one more, far too many, more than there stand, or fewer.
func TestHowManyTold(t *testing.T) {
	const place = 8 // of how many there are, among the parts
	counts := []int{0, 1, 2, 3, 4, 62, 63, 64, 65, 66, 127, 128, 255, 256, 1 << 16, 1 << 31, 1 << 32, 1<<32 + 1, 1 << 40, 1 << 62, math.MaxInt - 1, math.MaxInt}
	for _, there := range []int{0, 1, 2, 3, 63, 64, 65, 66} {
		m := batch()
		m.Recs = recs(there, m.At)
		l := parts(m)
		for _, n := range counts {
			if n == there && n <= 64 {
				continue
			}
			l[place] = nums(n)[0]
			noMsg(t, joined(l))
			if n > 64 {
				// Even if there are bytes enough for all of them.
				noMsg(t, joined(l)+strings.Repeat("\x00", 2*min(n, 20000)))
			}
		}
	}
	// One that is left out, and one that comes too much.
	for _, m := range []api.Msg{few()[7], few()[9], long()[0], long()[2]} {
		l := parts(m)
		for i := place + 1; i < len(l); i += 3 {
			asTold(t, joined(slices.Delete(slices.Clone(l), i, i+3)))
			noMsg(t, joined(l[:i]))
			noMsg(t, joined(l)+joined(l[i:i+3]))
		}
	}
}

// P16.1: how many bytes a record's data have told: more than there are, or fewer, or more than may be.
func TestDataTold(t *testing.T) {
	for _, m := range []api.Msg{few()[7], few()[9], long()[0], long()[2]} {
		l := parts(m)
		last := len(l) - 2
		size := l[last].n
		for n := range 200 {
			if n != size {
				l[last] = nums(n)[0]
				noMsg(t, joined(l))
			}
		}
		for _, n := range []int{1 << 16, 1 << 31, 1 << 32, 1<<32 + size, offsets, 1 << 62, math.MaxInt} {
			l[last] = nums(n)[0]
			noMsg(t, joined(l))
			noMsg(t, joined(l)+strings.Repeat("a", 1000))
		}
		// At the places ahead of it it may be another message.
		for i := 10; i < last; i += 3 {
			for n := range 80 {
				other := parts(m)
				other[i] = nums(n)[0]
				asTold(t, joined(other))
			}
		}
	}
	m := batch()
	for n := 60; n < 70; n++ {
		m.Recs = []api.Rec{{At: m.At, Data: strings.Repeat("a", n)}}
		if got := asTold(t, bodyOf(m)); got != (n <= 64) {
			t.Errorf("of %d bytes: %v", n, got)
		}
	}
}

// P16.1: a body that ends within a field, or between two; and one that goes on behind the last one, which of a chunk may be more data.
func TestBodyCut(t *testing.T) {
	for _, m := range append(few(), long()...) {
		body := bodyOf(m)
		needed := len(body) - len(m.Data)
		for cut := 1; cut < needed; cut++ {
			noMsg(t, body[:cut])
		}
		for _, behind := range []string{"\x00", "\x01", "\x80", "\xff", "\x00\x00", "\xff\xff\xff", "a", "text", body, strings.Repeat("\x00", 4096), strings.Repeat("a", 4097)} {
			if m.Kind != api.MsgChunk {
				noMsg(t, body+behind)
			} else if got := asTold(t, body+behind); got != (len(m.Data)+len(behind) <= 4096) {
				t.Errorf("with %d bytes, and %d more behind them: %v", len(m.Data), len(behind), got)
			}
		}
		if m.Kind == api.MsgChunk {
			for cut := needed; cut < len(body); cut++ {
				if !asTold(t, body[:cut]) {
					t.Errorf("of %d bytes of data: none", cut-needed)
				}
			}
		}
		noMsg(t, "\x00"+body)
		// Without its first bytes it may be another message.
		for cut := 1; cut < min(len(body), 40); cut++ {
			asTold(t, body[cut:])
		}
	}
}

// P16.1: the fields in another order, or one of them left out, or twice.
func TestOrder(t *testing.T) {
	for _, m := range few() {
		l := parts(m)
		for i := range l {
			for j := range l {
				other := slices.Clone(l)
				other[i], other[j] = other[j], other[i]
				if body := joined(other); body == bodyOf(m) {
					get(t, laid(body, 0), m, api.OK)
				} else {
					asTold(t, body)
				}
			}
			asTold(t, joined(slices.Delete(slices.Clone(l), i, i+1)))
			asTold(t, joined(slices.Insert(slices.Clone(l), i, l[i])))
		}
	}
}

// differ fails the test unless the messages are told to be unlike.
func differ(t *testing.T, a, b api.Msg) {
	t.Helper()
	if alike(a, b) {
		t.Fatalf("%v and %v are alike", a, b)
	}
	if Same(a, b) || Same(b, a) {
		t.Errorf("Same of %v and %v", a, b)
	}
}

// noneSame: messages that may not be, but are the same, or not, all the same.
func noneSame() []api.Msg {
	all := api.Msg{Kind: -1, From: 2, To: 2, Inc: -3, Peer: math.MinInt, Seq: math.MaxInt, At: 4, Window: 5, High: 6, Want: 7, Index: 8, Size: 9, Sum: 10, Data: strings.Repeat("d", 5000)}
	all.Recs = []api.Rec{{At: -1, Time: -2, Data: strings.Repeat("e", 70)}, {At: 9}, {At: 9}}
	many := all
	many.Recs = make([]api.Rec, 100)
	return []api.Msg{{}, all, many}
}

// P16.1: messages are the same as themselves, and as others that have the same fields.
func TestSame(t *testing.T) {
	l := slices.Concat(few(), long(), noneSame())
	for i, a := range l {
		if b := copied(a); !Same(a, a) || !Same(a, b) || !Same(b, a) {
			t.Errorf("Same of %v and itself: false", a)
		}
		for _, b := range l[i+1:] {
			differ(t, a, b)
		}
	}
	for _, m := range slices.Concat(few(), noneSame()) {
		for _, none := range [][]api.Rec{nil, {}, make([]api.Rec, 0, 3), recs(5, 0)[2:2]} {
			a, b := m, m
			a.Recs, b.Recs = nil, none
			if !Same(a, b) || !Same(b, a) {
				t.Errorf("Same of %v without records, in a list or not: false", m)
			}
		}
	}
}

// P16.1: messages that have one field changed, in their records too, are unlike.
func TestUnlike(t *testing.T) {
	for _, m := range slices.Concat(few(), long(), noneSame()) {
		for _, f := range fields {
			n := *f.of(&m)
			for _, other := range []int{n + 1, n - 1, -n, n ^ 1<<32, n ^ 1<<40, n ^ 1<<62, n ^ math.MinInt, 0, 1, 2, 3} {
				if other != n {
					differ(t, m, with(m, f.name, other))
				}
			}
		}
		for bit := range 32 {
			other := m
			other.Sum ^= 1 << bit
			differ(t, m, other)
		}
		for _, data := range []string{"", "a", m.Data + "\x00", m.Data + "a", "a" + m.Data, m.Data[:len(m.Data)/2], strings.ToUpper(m.Data)} {
			other := m
			other.Data = data
			if data != m.Data {
				differ(t, m, other)
			}
		}
		for _, behind := range []api.Rec{{}, {At: m.At + len(m.Recs)}, {Data: "a"}} {
			other := copied(m)
			other.Recs = append(other.Recs, behind)
			differ(t, m, other)
		}
		unlikeRecs(t, m)
	}
}

// unlikeRecs fails the test unless each message that is m, but for one of its records, is told to be unlike.
func unlikeRecs(t *testing.T, m api.Msg) {
	for place, r := range m.Recs {
		change := func(r api.Rec) {
			other := copied(m)
			other.Recs[place] = r
			differ(t, m, other)
		}
		for _, by := range []int{1, -1, 1 << 32, 1 << 40, math.MinInt} {
			change(api.Rec{At: r.At + by, Time: r.Time, Data: r.Data})
			change(api.Rec{At: r.At, Time: r.Time + by, Data: r.Data})
		}
		change(api.Rec{At: r.At, Time: r.Time, Data: r.Data + "\x00"})
		change(api.Rec{At: r.At, Time: r.Time, Data: "a" + r.Data})
		if n := len(r.Data); n > 0 {
			change(api.Rec{At: r.At, Time: r.Time, Data: r.Data[1:]})
			change(api.Rec{At: r.At, Time: r.Time, Data: r.Data[:n-1] + string([]byte{r.Data[n-1] ^ 128})})
		}
		other := copied(m)
		other.Recs = slices.Delete(other.Recs, place, place+1)
		differ(t, m, other)
		other.Recs = slices.Insert(slices.Clone(m.Recs), place, r)
		differ(t, m, other)
		other.Recs = m.Recs[:place]
		differ(t, m, other)
	}
}

// hurt: the message with one fault, or with a number that is all right.
func hurt(r *rand.Rand, m api.Msg) api.Msg {
	m = copied(m)
	edges := []int{-1, 0, 1, 7, 8, 64, 65, 65536, 65537, offsets, offsets + 1, math.MaxInt, math.MinInt}
	edge := edges[r.Intn(len(edges))]
	switch i := r.Intn(len(fields) + 4); {
	case i < len(fields):
		*fields[i].of(&m) = edge
	case i == len(fields):
		m.Sum = r.Uint32()
	case i == len(fields)+1:
		m.Data = strings.Repeat("a", r.Intn(5000))
	case len(m.Recs) > 0:
		rec := &m.Recs[r.Intn(len(m.Recs))]
		switch r.Intn(3) {
		case 0:
			rec.At += edge
		case 1:
			rec.Time = edge
		default:
			rec.Data = strings.Repeat("a", r.Intn(80))
		}
	default:
		m.Recs = recs(r.Intn(70), m.At)
	}
	return m
}

// P16.1, P16.2: any messages, right or with a fault, there and back.
func TestAny(t *testing.T) {
	r := rand.New(rand.NewSource(16))
	wrong := 0
	for range 30000 {
		m := some(r)
		if r.Intn(2) == 0 {
			m = hurt(r, m)
		}
		if right(m) {
			may(t, m)
		} else {
			wrong++
			mayNot(t, m)
			asTold(t, bodyOf(m))
		}
		other := some(r)
		if r.Intn(2) == 0 {
			other = hurt(r, m)
		}
		if got := Same(m, other); got != alike(m, other) {
			t.Fatalf("Same(%v, %v) = %v", m, other, got)
		}
	}
	if wrong < 3000 || wrong > 20000 {
		t.Errorf("of 30000 messages %d may not be", wrong)
	}
}

// P16.2: what is told was put in the one way there is, of whatever texts.
func TestOneWay(t *testing.T) {
	r := rand.New(rand.NewSource(17))
	there := 0
	for range 30000 {
		body := []byte(bodyOf(some(r)))
		for range r.Intn(3) {
			body[r.Intn(min(len(body), 20))] = byte(r.Intn(256))
		}
		s := laid(string(body), 0)
		want, err := told(s)
		get(t, s, want, err)
		m, err := Get(s)
		if err != api.OK {
			continue
		}
		there++
		if back, err := Put(m); back != s || err != api.OK || !Right(m) {
			t.Fatalf("Get(%q) = %v, which is put as %q, %d", s, m, back, err)
		}
	}
	if there < 3000 || there > 27000 {
		t.Errorf("of 30000 texts %d are messages'", there)
	}
}

// P16.1: any texts.
func TestAnyText(t *testing.T) {
	r := rand.New(rand.NewSource(18))
	for range 30000 {
		l := make([]byte, 1+r.Intn(40))
		for i := range l {
			l[i] = byte(r.Intn(1 << (1 + r.Intn(8))))
		}
		want, err := told(string(l))
		get(t, string(l), want, err)
		l[0] = byte(r.Intn(5))
		asTold(t, string(l))
	}
}

// P16.1: what is handed in stays as it was, its spare room too.
func TestNothingChanged(t *testing.T) {
	wrong := batch()
	wrong.Recs = recs(3, 9)
	for _, m := range append(slices.Concat(few(), long(), noneSame()), wrong) {
		n := len(m.Recs)
		room := slices.Concat(m.Recs, []api.Rec{{At: -7}, {At: m.At + n, Time: 3, Data: "x"}, {}, {At: 1 << 50, Data: "y"}})
		was := slices.Clone(room)
		m.Recs = room[:n]
		before := copied(m)
		Right(m)
		Put(m)
		Same(m, m)
		Same(m, copied(m))
		Same(wrong, m)
		if !slices.Equal(room, was) || !alike(m, before) {
			t.Errorf("of %v the room is %v", m, room)
		}
	}
}

// P16.1, P16.2: the same again answers the same, whatever was asked between; what was told stays, and is its own.
func TestNothingKept(t *testing.T) {
	for _, m := range append(few(), long()...) {
		want := copied(m)
		s, _ := Put(m)
		first, _ := Get(s)
		second, _ := Get(s)
		for range 3 {
			for _, other := range few() {
				may(t, other)
			}
			mayNot(t, api.Msg{Kind: 1})
			refuse(t, s+"a", api.ErrForm)
			noMsg(t, "\x00"+bodyOf(m))
		}
		if s != whole(want) || !alike(first, want) || !alike(second, want) {
			t.Errorf("what was told of %v has changed", want)
		}
		// Lists may be changed by whom they were told to, or by whom they were handed in.
		for i := range m.Recs {
			first.Recs[i], m.Recs[i] = api.Rec{At: -1}, api.Rec{At: -2}
		}
		if s != whole(want) || !alike(second, want) {
			t.Errorf("of %v lists are shared", want)
		}
		get(t, s, want, api.OK)
	}
}
