package fold

import (
	"encoding/binary"
	"maps"
	"math"
	"math/rand"
	"slices"
	"strings"
	"testing"

	"wagoner/api"
)

// sizes: of values that may be.
var sizes = []int{1, 2, 3, 31, 62, 63}

// value: so many bytes of all kinds.
func value(n int) string {
	l := make([]byte, n)
	rand.New(rand.NewSource(int64(n))).Read(l)
	return string(l)
}

// number: the bytes of n.
func number(n int) string {
	return string(binary.AppendUvarint(nil, uint64(n)))
}

// longer: the bytes of n, and so many more than it needs.
func longer(n, more int) string {
	s := []byte(number(n))
	for range more {
		s[len(s)-1] += 128
		s = append(s, 0)
	}
	return string(s)
}

// state: the pairs of these keys, of values of unlike sizes.
func state(keys ...byte) []api.Pair {
	var l []api.Pair
	for i, k := range keys {
		l = append(l, api.Pair{Key: k, Val: value(sizes[(i+int(k))%len(sizes)])})
	}
	return l
}

// full: the state of all keys.
func full() []api.Pair {
	var l []api.Pair
	for k := range 256 {
		l = append(l, state(byte(k))...)
	}
	return l
}

// states: of no pair, of one, of some, of all but one, of all.
func states() [][]api.Pair {
	l := [][]api.Pair{nil, {}, state(0), state(1), state(127), state(128), state(255), state('k'), state(0, 255), state(7, 8, 9), state(2, 4, 6, 100, 127, 128, 200), state(0, 1, 2, 253, 254, 255), full()}
	for _, n := range sizes {
		l = append(l, []api.Pair{{Key: 'k', Val: value(n)}})
	}
	for _, k := range []int{0, 1, 100, 127, 128, 254, 255} {
		l = append(l, slices.Delete(full(), k, k+1))
	}
	return l
}

// kept: what a state keeps of each key.
func kept(l []api.Pair) map[byte]string {
	m := map[byte]string{}
	for _, p := range l {
		m[p.Key] = p.Val
	}
	return m
}

// pairs: what is kept, by rising keys.
func pairs(m map[byte]string) []api.Pair {
	var l []api.Pair
	for _, k := range slices.Sorted(maps.Keys(m)) {
		l = append(l, api.Pair{Key: k, Val: m[k]})
	}
	return l
}

// behind: the state behind all these data, by the chapter's words.
func behind(l []api.Pair, data ...string) []api.Pair {
	m := kept(l)
	for _, d := range data {
		switch len(d) {
		case 0:
		case 1:
			delete(m, d[0])
		default:
			m[d[0]] = d[1:]
		}
	}
	return pairs(m)
}

// bytesOf: a state's bytes, by the chapter's words; of what is no state, too.
func bytesOf(l []api.Pair) string {
	s := number(len(l))
	for _, p := range l {
		s += string([]byte{p.Key}) + number(len(p.Val)) + p.Val
	}
	return s
}

// recs: records of these data.
func recs(data ...string) []api.Rec {
	var l []api.Rec
	for i, d := range data {
		l = append(l, api.Rec{At: i, Time: 9, Data: d})
	}
	return l
}

// history: so many data, of few keys or of all, of all kinds.
func history(seed, n, keys int) []string {
	r := rand.New(rand.NewSource(int64(seed)))
	var l []string
	for range n {
		key := string([]byte{byte(r.Intn(keys) * 251)})
		switch r.Intn(6) {
		case 0:
			l = append(l, "")
		case 1, 2:
			l = append(l, key)
		default:
			l = append(l, key+value(sizes[r.Intn(len(sizes))]))
		}
	}
	return l
}

// histories: of no data, of one, of many, of few keys and of many, and of one.
func histories() [][]string {
	l := [][]string{nil, {""}, {"k"}, {"k1"}, {"k1", "k2"}, {"k1", "k2", "k"}, {"k1", "k", "k2"}, {"", "", ""}, {"k1", "", "", "j2", "l3"}}
	for seed := range 12 {
		l = append(l, history(seed, 40, 1), history(seed, 40, 2), history(seed, 40, 5), history(seed, 60, 256))
	}
	return append(l, history(99, 3000, 256))
}

// same fails the test unless both are the same pairs.
func same(t *testing.T, what string, got, want []api.Pair) {
	t.Helper()
	if !slices.Equal(got, want) {
		t.Errorf("%s: %d pairs %.200q, want %d pairs %.200q", what, len(got), bytesOf(got), len(want), bytesOf(want))
	}
}

// step fails the test unless the state behind data is what the chapter's words say.
func step(t *testing.T, l []api.Pair, data string) {
	t.Helper()
	got := Step(l, data)
	same(t, "Step", got, behind(l, data))
	same(t, "Fold of one", Fold(l, recs(data)), behind(l, data))
	if !Right(got) {
		t.Errorf("behind %.20q there is no state: %.200q", data, bytesOf(got))
	}
}

// parse fails the test unless s is the bytes of just that state.
func parse(t *testing.T, s string, want []api.Pair) {
	t.Helper()
	got, ok := Parse(s)
	if !ok {
		t.Errorf("Parse(%.60q) (%d bytes) is none, want %d pairs", s, len(s), len(want))
	}
	same(t, "Parse", got, want)
}

// refuse fails the test unless s is no state's bytes.
func refuse(t *testing.T, s string) {
	t.Helper()
	if got, ok := Parse(s); ok || len(got) != 0 {
		t.Errorf("Parse(%.60q) (%d bytes) = %d pairs, %v, want none, false", s, len(s), len(got), ok)
	}
}

// wrong: pairs that are no state: one of them has a value that may not be, or its key doesn't rise.
func wrong() [][]api.Pair {
	var l [][]api.Pair
	for _, good := range [][]api.Pair{state(5), state(5, 6), state(0, 127, 128, 255), full()} {
		for _, at := range []int{0, len(good) / 2, len(good) - 1} {
			for _, n := range []int{0, 64, 65, 127, 128, 300} {
				bad := slices.Clone(good)
				bad[at].Val = value(n)
				l = append(l, bad)
			}
			l = append(l, slices.Insert(slices.Clone(good), at, good[at]))
			l = append(l, slices.Insert(slices.Clone(good), at, api.Pair{Key: good[at].Key, Val: "another"}))
			if at > 0 {
				bad := slices.Clone(good)
				bad[at], bad[at-1] = bad[at-1], bad[at]
				l = append(l, bad)
			}
		}
	}
	pair := func(k byte) api.Pair { return api.Pair{Key: k, Val: "v"} }
	l = append(l, []api.Pair{pair(1), pair(0)}, []api.Pair{pair(255), pair(0)}, []api.Pair{pair(128), pair(127)}, []api.Pair{pair(1), pair(3), pair(2)}, []api.Pair{pair(3), pair(1), pair(2)}, []api.Pair{pair(1), pair(2), pair(1)}, []api.Pair{pair(0), pair(0)}, []api.Pair{pair(255), pair(255)}, []api.Pair{{}}, []api.Pair{{}, pair(1)}, []api.Pair{pair(0), {Key: 1}})
	l = append(l, append(full(), pair(255)), append(full(), pair(0)), slices.Insert(full(), 0, pair(0)))
	return l
}

// P5.1: what is a state: no pair, one, all keys, and values of 1 byte to 63.
func TestRight(t *testing.T) {
	for _, l := range states() {
		if !Right(l) {
			t.Errorf("Right of %d pairs %.200q is false", len(l), bytesOf(l))
		}
	}
	for n := 1; n <= 63; n++ {
		if !Right([]api.Pair{{Key: 'k', Val: value(n)}}) {
			t.Errorf("Right of a value of %d bytes is false", n)
		}
	}
	for a := range 256 {
		for b := range 256 {
			l := []api.Pair{{Key: byte(a), Val: "v"}, {Key: byte(b), Val: "w"}}
			if Right(l) != (a < b) {
				t.Errorf("Right of the keys %d, %d is %v", a, b, Right(l))
			}
		}
	}
}

// P5.1: what is none: values of no bytes, of 64 and more; keys that are the same, that fall.
func TestRightWrong(t *testing.T) {
	for _, l := range wrong() {
		if Right(l) {
			t.Errorf("Right of %d pairs %.200q is true", len(l), bytesOf(l))
		}
	}
}

// P5.1: each state behind no data, behind each key alone, and behind each key with a value of few bytes or of many.
func TestStep(t *testing.T) {
	for _, l := range states() {
		step(t, l, "")
		for k := range 256 {
			key := string([]byte{byte(k)})
			step(t, l, key)
			step(t, l, key+"1")
			step(t, l, key+key)
			step(t, l, key+value(63))
		}
		for _, n := range sizes {
			step(t, l, "k"+value(n))
			step(t, l, "\x00"+value(n))
			step(t, l, "\xff"+value(n))
		}
	}
}

// P5.1: the chapter's example, and what stands beside it: ahead of all others, amid them, behind them.
func TestStepExample(t *testing.T) {
	k1 := Step(nil, "k1")
	same(t, "k1", k1, []api.Pair{{Key: 'k', Val: "1"}})
	k2 := Step(k1, "k2")
	same(t, "k2", k2, []api.Pair{{Key: 'k', Val: "2"}})
	same(t, "k", Step(k2, "k"), nil)
	same(t, "none", Step(k2, ""), []api.Pair{{Key: 'k', Val: "2"}})
	same(t, "another", Step(k2, "j"), []api.Pair{{Key: 'k', Val: "2"}})
	same(t, "k and a 0", Step(k2, "k\x00"), []api.Pair{{Key: 'k', Val: "\x00"}})
	l := []api.Pair{{Key: 'f', Val: "6"}, {Key: 'k', Val: "11"}, {Key: 'p', Val: "16"}}
	same(t, "ahead", Step(l, "a1"), slices.Insert(slices.Clone(l), 0, api.Pair{Key: 'a', Val: "1"}))
	same(t, "amid", Step(l, "g7"), slices.Insert(slices.Clone(l), 1, api.Pair{Key: 'g', Val: "7"}))
	same(t, "at the end", Step(l, "z26"), append(slices.Clone(l), api.Pair{Key: 'z', Val: "26"}))
	same(t, "the first one goes", Step(l, "f"), l[1:])
	same(t, "the last one goes", Step(l, "p"), l[:2])
	same(t, "one amid them goes", Step(l, "k"), []api.Pair{l[0], l[2]})
}

// P5.1: the state behind no records, behind one, and behind many, by their data alone.
func TestFold(t *testing.T) {
	for _, l := range states() {
		for _, data := range histories() {
			same(t, "Fold", Fold(l, recs(data...)), behind(l, data...))
		}
	}
	for _, data := range histories() {
		one := slices.Clone(data)
		unlike := recs(one...)
		for i := range unlike {
			unlike[i].At, unlike[i].Time = -i, math.MaxInt-i
		}
		same(t, "Fold of other offsets and times", Fold(nil, unlike), behind(nil, data...))
		var l []api.Pair
		for _, d := range data {
			l = Step(l, d)
		}
		same(t, "Step by step", Fold(nil, unlike), l)
	}
}

// P5.1: a state of all keys comes, and goes again.
func TestFoldFull(t *testing.T) {
	var come, rise, fall []string
	for k := range 256 {
		key := string([]byte{byte(k)})
		come = append(come, key+value(1+k%63))
		rise = append(rise, key)
		fall = slices.Insert(fall, 0, key)
	}
	back := slices.Clone(come)
	slices.Reverse(back)
	all := Fold(nil, recs(come...))
	if len(all) != api.MaxPairs || !Right(all) {
		t.Errorf("behind all keys there are %d pairs", len(all))
	}
	same(t, "come from the last one on", Fold(nil, recs(back...)), all)
	same(t, "go", Fold(all, recs(rise...)), nil)
	same(t, "go from the last one on", Fold(all, recs(fall...)), nil)
	parse(t, Bytes(all), all)
}

// P5.1: a state's bytes, byte by byte.
func TestBytes(t *testing.T) {
	for _, l := range states() {
		if s := Bytes(l); s != bytesOf(l) {
			t.Errorf("Bytes of %d pairs = %.200q, want %.200q", len(l), s, bytesOf(l))
		}
	}
	for s, l := range map[string][]api.Pair{
		"\x00":                                   nil,
		"\x01k\x012":                             {{Key: 'k', Val: "2"}},
		"\x02\x00\x01\x00\xff\x03abc":            {{Key: 0, Val: "\x00"}, {Key: 255, Val: "abc"}},
		"\x01\x80\x3f" + strings.Repeat("x", 63): {{Key: 128, Val: strings.Repeat("x", 63)}},
	} {
		if got := Bytes(l); got != s {
			t.Errorf("Bytes = %q, want %q", got, s)
		}
		parse(t, s, l)
	}
	if s := Bytes(full()); s[:2] != "\x80\x02" || s[2] != 0 {
		t.Errorf("Bytes of all keys begin %q", s[:3])
	}
}

// P5.1, P5.2: the state whose bytes those are: there and back.
func TestParse(t *testing.T) {
	for _, l := range states() {
		parse(t, bytesOf(l), l)
		parse(t, Bytes(l), l)
	}
	for _, data := range histories() {
		l := Fold(nil, recs(data...))
		parse(t, Bytes(l), l)
	}
}

// P5.1: bytes that end amid the number of pairs, amid a pair, amid a value, and bytes behind the last pair.
func TestParseCut(t *testing.T) {
	for _, l := range states() {
		s := bytesOf(l)
		for cut := range len(s) {
			refuse(t, s[:cut])
		}
		for _, more := range []string{"\x00", "\x80", "\xff", "k", "k\x01", "k\x012", "\xff\x01v", s} {
			refuse(t, s+more)
		}
		for _, ahead := range []string{"\x80", "\xff", "\x81"} {
			refuse(t, ahead+s)
		}
	}
	refuse(t, "")
	refuse(t, "\x80")
	refuse(t, "\x80\x02")
	refuse(t, "\x01")
	refuse(t, "\x01k")
	refuse(t, "\x01k\x80")
	refuse(t, "\x01k\x01")
	refuse(t, "\x01k\x02v")
	refuse(t, "\x02k\x01v")
	refuse(t, "\x00k\x01v")
}

// P5.1: bytes of pairs that are no state: keys that don't rise, values of no bytes, of 64 and of more.
func TestParseWrong(t *testing.T) {
	for _, l := range wrong() {
		refuse(t, bytesOf(l))
	}
	refuse(t, "\x01k\x00")
	refuse(t, "\x01k\x40"+strings.Repeat("x", 64))
	refuse(t, "\x02k\x01vk\x01v")
	refuse(t, "\x02k\x01vj\x01v")
}

// P5.1: another number of pairs than there are.
func TestParseNumber(t *testing.T) {
	for _, l := range states() {
		rest := strings.TrimPrefix(bytesOf(l), number(len(l)))
		for _, n := range []int{0, 1, len(l) - 1, len(l) + 1, len(l) + 128, len(l) + 256, 255, 256, 257, 512, 1 << 16, 1 << 31, 1<<32 + len(l), 1<<62 + len(l), math.MaxInt} {
			if n >= 0 && n != len(l) {
				refuse(t, number(n)+rest)
			}
		}
		for _, n := range []string{"\xff\xff\xff\xff\xff\xff\xff\xff\xff\x01", strings.Repeat("\x80", 9), strings.Repeat("\x80", 9) + "\x01", strings.Repeat("\xff", 20)} {
			refuse(t, n+rest)
		}
	}
	for _, n := range []int{2, 64, 128, 1 << 31, 1 << 32, 1<<32 + 1, 1<<62 + 1, math.MaxInt - 3, math.MaxInt} {
		refuse(t, "\x01k"+number(n)+"v")
		refuse(t, "\x02a\x01vk"+number(n)+"v")
	}
}

// P5.1: numbers that aren't in their fewest bytes, of the pairs or of a value.
func TestParseForm(t *testing.T) {
	for _, l := range states() {
		s := bytesOf(l)
		head := number(len(l))
		for more := 1; more < 10; more++ {
			refuse(t, longer(len(l), more)+strings.TrimPrefix(s, head))
			place := len(head)
			for _, p := range l {
				n := number(len(p.Val))
				if place < 400 {
					refuse(t, s[:place+1]+longer(len(p.Val), more)+s[place+1+len(n):])
				}
				place += 1 + len(n) + len(p.Val)
			}
		}
	}
}

// P5.1, P5.2: of bytes like those of states, and of any, just those are taken that are a state's, and they are that state's.
func TestParseAny(t *testing.T) {
	r := rand.New(rand.NewSource(5))
	taken := 0
	try := func(s string) {
		t.Helper()
		l, ok := Parse(s)
		switch {
		case ok && (!Right(l) || Bytes(l) != s):
			t.Errorf("Parse(%.60q) took bytes that are no state's", s)
		case ok:
			taken++
		case len(l) != 0:
			t.Errorf("Parse(%.60q) = %d pairs, false", s, len(l))
		}
	}
	for _, l := range states() {
		s := []byte(bytesOf(l))
		for range 400 {
			at, b := r.Intn(len(s)), byte(r.Intn(256))
			other := slices.Clone(s)
			other[at] = b
			try(string(other))
			try(string(slices.Insert(slices.Clone(s), at, b)))
			try(string(slices.Delete(slices.Clone(s), at, at+1)))
		}
	}
	// All short texts of bytes that count.
	some := "\x00\x01\x02\x03\x80"
	var all func(s string)
	all = func(s string) {
		try(s)
		for i := range some {
			if len(s) < 7 {
				all(s + some[i:i+1])
			}
		}
	}
	all("")
	if taken == 0 {
		t.Error("none was taken")
	}
}

// P5.2: records in two parts, cut anywhere, come to the same.
func TestParts(t *testing.T) {
	for _, data := range histories() {
		l := recs(data...)
		for _, first := range [][]api.Pair{nil, state(0, 100, 251), full()} {
			want := Fold(first, l)
			for cut := 0; cut <= len(l); cut += 1 + len(l)/100 {
				same(t, "in two parts", Fold(Fold(first, l[:cut]), l[cut:]), want)
				half, ok := Parse(Bytes(Fold(first, l[:cut])))
				if !ok {
					t.Errorf("the state behind %d records doesn't come back", cut)
				}
				same(t, "in two parts, by way of bytes", Fold(half, l[cut:]), want)
			}
		}
	}
}

// P5.2: only the last record of each key counts.
func TestLast(t *testing.T) {
	for _, data := range histories() {
		last := map[byte]int{}
		for i, d := range data {
			if d != "" {
				last[d[0]] = i
			}
		}
		var few []string
		for i, d := range data {
			if d != "" && last[d[0]] == i {
				few = append(few, d)
			}
		}
		for _, first := range states() {
			want := Fold(first, recs(data...))
			same(t, "the last ones alone", Fold(first, recs(few...)), want)
			same(t, "the last ones once more", Fold(want, recs(few...)), want)
		}
		// Of unlike keys the order doesn't count.
		slices.Reverse(few)
		same(t, "the last ones, turned", Fold(nil, recs(few...)), Fold(nil, recs(data...)))
	}
	many := make([]string, 0, 300)
	for i := range 300 {
		many = append(many, "k"+value(1+i%63))
	}
	same(t, "many of one key", Fold(nil, recs(append(many, "klast")...)), []api.Pair{{Key: 'k', Val: "last"}})
	same(t, "many of one key, and it goes", Fold(nil, recs(append(many, "k")...)), nil)
	same(t, "many of one key, it goes, and comes", Fold(nil, recs(append(many, "k", "kx")...)), []api.Pair{{Key: 'k', Val: "x"}})
}

// roomy: the pairs, with spare room behind them, all of it: what stands there, too.
func roomy(l []api.Pair) ([]api.Pair, []api.Pair) {
	all := slices.Clone(l)
	for i := range 5 {
		all = append(all, api.Pair{Key: byte(10 * i), Val: "spare"})
	}
	return all[:len(l)], all
}

// P5.1: what is handed in stays as it was, its spare room too, and what is answered as well.
func TestNothingChanged(t *testing.T) {
	for _, first := range states() {
		l, room := roomy(first)
		was := slices.Clone(room)
		data := history(7, 60, 256)
		records := recs(append(data, data[0], "spare", "room")...)
		wasRecords := slices.Clone(records)
		Right(l)
		Bytes(l)
		for k := range 256 {
			key := string([]byte{byte(k)})
			for _, d := range []string{"", key, key + "new"} {
				got := Step(l, d)
				same(t, "after Step", room, was)
				told := slices.Clone(got)
				more := Step(got, "qx")
				Fold(got, records)
				same(t, "an answer that was handed in", got, told)
				for i := range more {
					more[i] = api.Pair{}
				}
				same(t, "after a change of the answer of an answer", got, told)
				for i := range got {
					got[i] = api.Pair{}
				}
				same(t, "after a change of the answer", room, was)
			}
		}
		got := Fold(l, records[:len(data)])
		told := slices.Clone(got)
		same(t, "after Fold", room, was)
		if !slices.Equal(records, wasRecords) {
			t.Error("Fold changed the records")
		}
		for i := range room {
			room[i] = api.Pair{Key: 1, Val: "other"}
		}
		same(t, "the answer, after a change of what was handed in", got, told)
	}
}

// P5.1: the same again answers the same, whatever was asked between.
func TestNothingKept(t *testing.T) {
	for _, l := range states() {
		s := Bytes(l)
		a := Fold(l, recs(history(3, 50, 256)...))
		refuse(t, s+"x")
		Step(full(), "kx")
		parse(t, s, l)
		b := Fold(l, recs(history(3, 50, 256)...))
		same(t, "again", b, a)
		if Bytes(l) != s || !Right(l) {
			t.Error("Bytes or Right answer another thing the second time")
		}
	}
}
