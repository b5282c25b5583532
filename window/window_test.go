package window

import (
	"fmt"
	"math"
	"math/rand"
	"slices"
	"strings"
	"testing"

	"wagoner/api"
	"wagoner/crc"
	"wagoner/disk"
	"wagoner/install"
	"wagoner/manifest"
	"wagoner/record"
	"wagoner/reopen"
	"wagoner/store"
	"wagoner/trim"
)

// plenty is the most that a window and a batch may be; never is a seg that no segment's bytes reach.
const (
	plenty = 1 << 40
	never  = math.MaxInt
)

// rec: a record of that offset; its time and its data hang on it.
func rec(at int) api.Rec {
	return api.Rec{At: at, Time: at * 31 % 1000, Data: strings.Repeat(string(rune('a'+at%26)), at*7%(api.MaxPayload+1))}
}

// number: how many bytes a number has, by the words of chapter 1.
func number(n int) int {
	size := 1
	for ; n > 127; n >>= 7 {
		size++
	}
	return size
}

// size: how many bytes the records' frames have, by the words of chapters 3 and 4.
func size(l ...api.Rec) int {
	n := 0
	for _, r := range l {
		body := number(r.At) + number(r.Time) + len(r.Data)
		n += number(body) + 4 + body
	}
	return n
}

// log is a store, and what it has, told apart from it: the records from the offset base on, those below its floor too.
type log struct {
	st   api.Store
	base int
	l    []api.Rec
}

// show: in words, in short.
func (g log) show() string {
	return fmt.Sprintf("[Segs %v Next %d Sure %d]", g.st.Segs, g.st.Next, g.st.Sure)
}

// toldFrom: the records that layer 12's From tells, by the words of chapter 12.
func (g log) toldFrom(off, bytes, most int) []api.Rec {
	if len(g.st.Segs) == 0 || off < g.st.Segs[0].Base {
		return nil
	}
	var l []api.Rec
	for at := off; at < g.st.Sure && len(l) < most; at++ {
		r := g.l[at-g.base]
		if bytes -= size(r); bytes < 0 {
			break
		}
		l = append(l, r)
	}
	return l
}

// told: the batches, by the chapter's words.
func (g log) told(from, window, batch, most int) [][]api.Rec {
	var all [][]api.Rec
	for len(all) < most {
		l := g.toldFrom(from, max(min(batch, window), 0), 64)
		if len(l) == 0 {
			break
		}
		all = append(all, l)
		window -= size(l...)
		from += len(l)
	}
	return all
}

// brief: batches, each by its first offset and how many records it has.
func brief(all [][]api.Rec) string {
	var s []string
	for _, l := range all[:min(len(all), 9)] {
		if len(l) == 0 {
			s = append(s, "none")
			continue
		}
		s = append(s, fmt.Sprintf("%d+%d", l[0].At, len(l)))
	}
	return fmt.Sprintf("%d batches %v", len(all), s)
}

// alike: are both lists of batches the same?
func alike(a, b [][]api.Rec) bool {
	return slices.EqualFunc(a, b, slices.Equal[[]api.Rec])
}

// is fails the test unless the batches are those of the chapter's words, and what follows holds of them; it answers them.
func (g log) is(t *testing.T, from, window, batch, most int) [][]api.Rec {
	t.Helper()
	all := Batches(g.st, from, window, batch, most)
	if want := g.told(from, window, batch, most); !alike(all, want) {
		t.Fatalf("Batches(%s, %d, %d, %d, %d): %s, want %s", g.show(), from, window, batch, most, brief(all), brief(want))
	}
	g.follows(t, all, from, window, batch, most)
	return all
}

// follows fails the test unless what P19.2 and the chapter's words bind holds of the batches.
func (g log) follows(t *testing.T, all [][]api.Rec, from, window, batch, most int) {
	t.Helper()
	what := fmt.Sprintf("Batches(%s, %d, %d, %d, %d): %s", g.show(), from, window, batch, most, brief(all))
	sum, next := 0, from
	for _, l := range all {
		if len(l) < 1 || len(l) > 64 || size(l...) > batch || Bytes(l) != size(l...) {
			t.Fatalf("%s: one has %d records, %d bytes, Bytes %d", what, len(l), size(l...), Bytes(l))
		}
		for _, r := range l {
			own, err := store.Read(g.st, next)
			if r != own || err != api.OK || r.At != next || next >= g.st.Sure {
				t.Fatalf("%s: %v stands at %d, where the store has %v, %d", what, r, next, own, err)
			}
			next++
		}
		sum += size(l...)
	}
	if sum > max(window, 0) || len(all) > max(most, 0) {
		t.Fatalf("%s: %d bytes together", what, sum)
	}
	if one := g.toldFrom(from, plenty, 1); len(one) == 1 && size(one...) <= min(window, batch) && most > 0 && len(all) == 0 {
		t.Fatalf("%s: there is none, though a record fits", what)
	}
}

// fine fails the test unless that is OK; and answers the store.
func fine(t *testing.T, st api.Store, err api.Errno) api.Store {
	t.Helper()
	if err != api.OK {
		t.Fatalf("error %d", err)
	}
	return st
}

// empty: a new log.
func empty(t *testing.T) log {
	t.Helper()
	st, err := store.Create(api.Disk{})
	return log{st: fine(t, st, err)}
}

// with: the log with these records more, at its next offsets, each with that seg, none of them synced but by a roll.
func (g log) with(t *testing.T, seg int, l ...api.Rec) log {
	t.Helper()
	for _, r := range l {
		r.At = g.st.Next
		st, err := store.Append(g.st, seg, r)
		g.st, g.l = fine(t, st, err), append(slices.Clone(g.l), r)
	}
	return g
}

// more: the log with so many records more.
func (g log) more(t *testing.T, n, seg int) log {
	t.Helper()
	for range n {
		g = g.with(t, seg, rec(g.st.Next))
	}
	return g
}

// synced: the log behind a Sync.
func (g log) synced(t *testing.T) log {
	t.Helper()
	st, err := store.Sync(g.st)
	g.st = fine(t, st, err)
	return g
}

// trimmed: the log behind a Trim.
func (g log) trimmed(t *testing.T, keep, count int) log {
	t.Helper()
	st, err := trim.Trim(g.st, keep, count)
	g.st = fine(t, st, err)
	return g
}

// crashed: the log opened behind a crash that keeps so many bytes of each file; what didn't come through is gone.
func (g log) crashed(t *testing.T, keep int) log {
	t.Helper()
	l := make([]int, len(g.st.Disk.Files))
	for i := range l {
		l[i] = keep
	}
	st, err := reopen.Open(disk.Crash(g.st.Disk, l))
	if fine(t, st, err).Next > g.st.Next || st.Next < g.st.Sure {
		t.Fatalf("%s is opened with Next %d", g.show(), st.Next)
	}
	return log{st, g.base, g.l[:st.Next-g.base]}
}

// installed: the log behind an Install of a snapshot at that offset.
func (g log) installed(t *testing.T, at int) log {
	t.Helper()
	st, err := install.Install(g.st, at, "\x01k\x01v")
	return log{fine(t, st, err), at, nil}
}

// small: a record of 8 bytes, if its offset is below 128; whole: one of as many bytes as may be.
func small() api.Rec { return api.Rec{Data: "s"} }
func whole() api.Rec {
	return api.Rec{Time: api.MaxOffset, Data: strings.Repeat("w", api.MaxPayload)}
}

// some: new; of some records, sure, in part, or not; in one segment and in many; behind trims, installs, and opens behind a crash; near the last offset.
func some(t *testing.T) []log {
	t.Helper()
	part := empty(t).more(t, 7, never).synced(t).more(t, 4, never)
	long := empty(t).more(t, 60, 300).synced(t).more(t, 3, never)
	each := empty(t).more(t, 6, 1)
	trimmed := long.trimmed(t, 700, never)
	twice := trimmed.more(t, 9, 90).trimmed(t, 400, never)
	alike := empty(t).with(t, never, slices.Repeat([]api.Rec{small()}, 200)...)
	high := empty(t).installed(t, 1000)
	return []log{
		empty(t), empty(t).more(t, 1, never), empty(t).more(t, 1, never).synced(t), empty(t).more(t, 9, never),
		part, part.synced(t), part.crashed(t, 0), part.crashed(t, 9), part.crashed(t, never),
		each, each.synced(t), each.crashed(t, 3), each.trimmed(t, 0, never), each.trimmed(t, 0, never).synced(t),
		long, long.synced(t), long.crashed(t, 40), trimmed, trimmed.synced(t), trimmed.crashed(t, 0), long.trimmed(t, 0, 0),
		twice, twice.synced(t), alike, alike.synced(t), alike.crashed(t, 999),
		empty(t).with(t, 100, slices.Repeat([]api.Rec{whole(), small()}, 20)...).synced(t),
		high, high.more(t, 5, never), high.more(t, 5, 60).synced(t), part.installed(t, 5000).more(t, 20, 200).synced(t),
		empty(t).installed(t, api.MaxOffset-3).more(t, 3, never).synced(t), empty(t).more(t, api.MaxSegs, 1).synced(t),
	}
}

// offsets: below the store's first, at its first, within, at what is sure, at its end, behind it, at segments' ends, and at the ends of their type.
func (g log) offsets() []int {
	floor, sure, next := g.st.Segs[0].Base, g.st.Sure, g.st.Next
	l := []int{
		math.MinInt, math.MinInt + 1, -api.MaxOffset, -1, 0, 1, floor - 2, floor - 1, floor, floor + 1, (floor + sure) / 2,
		sure - 2, sure - 1, sure, sure + 1, next - 1, next, next + 1, api.MaxOffset, api.MaxOffset + 1, math.MaxInt - 1, math.MaxInt,
	}
	for _, s := range g.st.Segs[:min(len(g.st.Segs), 3)] {
		l = append(l, s.Base-1, s.Base, s.Base+s.N/2, s.Base+s.N)
	}
	slices.Sort(l)
	return slices.Compact(l)
}

// amounts: windows and batches: none, less, those of one, two, 64, and all sure records from that offset on, one byte less and one more, and the most.
func (g log) amounts(off int) []int {
	l := []int{math.MinInt, math.MinInt + 1, -plenty, -1, 0, 1, plenty - 1, plenty}
	sure := g.toldFrom(off, plenty, never)
	for _, n := range []int{1, 2, 3, 64, 65, len(sure)} {
		if n <= len(sure) {
			sum := size(sure[:n]...)
			l = append(l, sum-1, sum, sum+1)
		}
	}
	slices.Sort(l)
	return slices.Compact(l)
}

// mosts: none, less, one, some, more than there are; and such as come to no sum, or to another one, times a batch.
var mosts = []int{math.MinInt, -1 << 62, -1 << 24, -1, 0, 1, 2, 3, 70, 1 << 23, 1 << 24, 1 << 62, math.MaxInt}

// P19.1, P19.2: the chapter's example: three records of 8 bytes, window 20, batch 8, most 9: two batches of a record each.
func TestExample(t *testing.T) {
	g := empty(t).with(t, never, small(), small(), small()).synced(t)
	want := [][]api.Rec{{{At: 0, Data: "s"}}, {{At: 1, Data: "s"}}}
	for _, l := range want {
		if n := Bytes(l); n != 8 {
			t.Errorf("Bytes of %v = %d, want 8", l, n)
		}
	}
	if all := Batches(g.st, 0, 20, 8, 9); !alike(all, want) {
		t.Errorf("Batches = %v, want %v", all, want)
	}
}

// P19.1: Bytes of no record, of one, of some that are unlike, of 64: how many bytes their row has.
func TestBytes(t *testing.T) {
	for _, l := range [][]api.Rec{nil, {}} {
		if n := Bytes(l); n != 0 {
			t.Errorf("Bytes of none = %d", n)
		}
	}
	for n, r := range map[int]api.Rec{
		7:  {},
		8:  {Data: "a"},
		9:  {At: 5, Time: 9, Data: "ab"},
		10: {At: 127, Time: 128, Data: "ab"},
		11: {At: 128, Time: 128, Data: "ab"},
		81: {At: api.MaxOffset, Time: api.MaxOffset, Data: strings.Repeat("\xff", api.MaxPayload)},
		71: {At: 0, Time: 0, Data: strings.Repeat("\x00", api.MaxPayload)},
	} {
		if got := Bytes([]api.Rec{r}); got != n {
			t.Errorf("Bytes of %d, %d, %d bytes of data = %d, want %d", r.At, r.Time, len(r.Data), got, n)
		}
	}
	for _, base := range []int{0, 1, 120, 16300, api.MaxOffset - 64} {
		var l []api.Rec
		for n := range 65 {
			row, err := record.Row(l)
			if got := Bytes(l); got != len(row) || got != size(l...) || err != api.OK {
				t.Fatalf("Bytes of %d records from %d on = %d, want %d", n, base, got, len(row))
			}
			l = append(l, rec(base+n))
		}
	}
}

// Of a list that is no batch nothing is promised, but the call ends: records that may not be have no frame.
func TestBytesNoBatch(t *testing.T) {
	for _, l := range [][]api.Rec{
		{{At: -1}, {At: math.MinInt, Time: math.MaxInt}, {At: api.MaxOffset + 1}, {Time: -1}, {Data: strings.Repeat("a", api.MaxPayload+1)}},
		{{At: 3}, {At: 3}, {At: 1}},
		slices.Repeat([]api.Rec{whole()}, 1000),
	} {
		want := 0
		for _, r := range l {
			want += record.Size(r)
		}
		if got := Bytes(l); got != want {
			t.Errorf("Bytes of %d records = %d, want %d", len(l), got, want)
		}
	}
}

// P19.1, P19.2: all kinds of stores, at each offset that is an edge of them, with windows, batches and mosts that are.
func TestBatches(t *testing.T) {
	some, told := some(t), map[int]bool{}
	for _, g := range some {
		for _, off := range g.offsets() {
			amounts := g.amounts(off)
			for _, window := range amounts {
				for _, batch := range amounts {
					for _, most := range mosts {
						told[min(len(g.is(t, off, window, batch, most)), 4)] = true
					}
				}
			}
		}
	}
	if len(told) != 5 {
		t.Errorf("of no, one, two, three and more batches some are never told: %v", told)
	}
}

// P19.1: below the floor, at Sure, at Next and behind them there is none, whatever there is room for.
func TestNone(t *testing.T) {
	g := empty(t).more(t, 20, 100).synced(t).trimmed(t, 200, never).more(t, 2, never)
	floor, sure, next := g.st.Segs[0].Base, g.st.Sure, g.st.Next
	if floor < 2 || sure <= floor || next != sure+2 {
		t.Fatalf("there is another log: %s", g.show())
	}
	for _, off := range []int{math.MinInt, -1, 0, 1, floor - 1, sure, sure + 1, next, next + 1, math.MaxInt} {
		if all := Batches(g.st, off, plenty, plenty, never); len(all) != 0 {
			t.Errorf("Batches of %s at %d: %s", g.show(), off, brief(all))
		}
	}
	for _, off := range []int{floor, sure - 1} {
		if all := Batches(g.st, off, plenty, plenty, never); len(all) != 1 || len(all[0]) != sure-off || all[0][0] != rec(off) {
			t.Errorf("Batches of %s at %d: %s", g.show(), off, brief(all))
		}
	}
}

// P19.1: records of 8, 71, 8 and 10 bytes, in one segment and in four: how many batches of how many records there are.
func TestFits(t *testing.T) {
	l := []api.Rec{small(), {Data: strings.Repeat("b", api.MaxPayload)}, small(), {Data: "ddd"}}
	for _, seg := range []int{never, 1} {
		g := empty(t).with(t, seg, l...).synced(t)
		for _, c := range []struct {
			from, window, batch, most int
			want                      []int
		}{
			{0, 97, 97, 9, []int{4}}, {0, 96, 97, 9, []int{3}}, {0, 97, 96, 9, []int{3, 1}}, {0, 87, 97, 9, []int{3}}, {0, 86, 97, 9, []int{2}},
			{0, 97, 79, 9, []int{2, 2}}, {0, 97, 78, 9, []int{1, 1, 2}}, {0, 97, 71, 9, []int{1, 1, 2}}, {0, 97, 70, 9, []int{1}}, {0, 97, 8, 9, []int{1}}, {0, 97, 7, 9, nil},
			{0, 7, 97, 9, nil}, {0, 8, 97, 9, []int{1}}, {0, 9, 97, 9, []int{1}}, {0, 78, 97, 9, []int{1}}, {0, 79, 97, 9, []int{2}}, {0, 80, 97, 9, []int{2}},
			{0, 79, 71, 9, []int{1, 1}}, {0, 78, 71, 9, []int{1}}, {0, 87, 71, 9, []int{1, 1, 1}}, {0, 96, 71, 9, []int{1, 1, 1}}, {0, 97, 78, 2, []int{1, 1}}, {0, 97, 78, 1, []int{1}}, {0, 97, 97, 1, []int{4}},
			{0, 97, 79, 1, []int{2}}, {0, 96, 79, 2, []int{2, 1}}, {0, 97, 78, 0, nil}, {0, 97, 78, -1, nil}, {0, 0, 97, 9, nil}, {0, 97, 0, 9, nil}, {0, -1, 97, 9, nil}, {0, 97, -1, 9, nil},
			{1, 89, 89, 9, []int{3}}, {1, 88, 89, 9, []int{2}}, {1, 70, 89, 9, nil}, {1, 89, 70, 9, nil}, {1, 89, 71, 9, []int{1, 2}}, {1, 89, 79, 9, []int{2, 1}}, {1, 80, 79, 9, []int{2}},
			{2, 18, 18, 9, []int{2}}, {2, 17, 18, 9, []int{1}}, {2, 18, 17, 9, []int{1, 1}}, {2, 17, 17, 9, []int{1}}, {3, 10, 10, 9, []int{1}}, {3, 9, 10, 9, nil}, {3, 10, 9, 9, nil},
			{4, plenty, plenty, 9, nil}, {0, plenty, plenty, 9, []int{4}}, {0, plenty, 18, never, []int{1}}, {2, plenty, 18, never, []int{2}}, {2, plenty, 10, never, []int{1, 1}},
		} {
			var got []int
			for _, l := range g.is(t, c.from, c.window, c.batch, c.most) {
				got = append(got, len(l))
			}
			if !slices.Equal(got, c.want) {
				t.Errorf("Batches(%s, %d, %d, %d, %d) have %v records, want %v", g.show(), c.from, c.window, c.batch, c.most, got, c.want)
			}
		}
	}
}

// P19.1: of more than 64 records that fit no batch has more than 64, in one segment and in many.
func TestMany(t *testing.T) {
	// From the offset 128 on, so that all are of 9 bytes.
	all := slices.Repeat([]api.Rec{small()}, 128+200)
	for _, seg := range []int{never, 9 * 30, 9 * 64} {
		g := empty(t).with(t, seg, all...).synced(t)
		for _, c := range []struct {
			from, window, batch, most int
			want                      []int
		}{
			{128, plenty, plenty, never, []int{64, 64, 64, 8}}, {128, plenty, plenty, 3, []int{64, 64, 64}}, {128, plenty, plenty, 1, []int{64}}, {128, plenty, plenty, 4, []int{64, 64, 64, 8}},
			{128, plenty, 9 * 64, never, []int{64, 64, 64, 8}}, {128, plenty, 9*64 - 1, never, []int{63, 63, 63, 11}}, {128, plenty, 9*64 + 9, never, []int{64, 64, 64, 8}}, {128, plenty, 9 * 65, 2, []int{64, 64}},
			{128, 9 * 64, plenty, never, []int{64}}, {128, 9*64 - 1, plenty, never, []int{63}}, {128, 9*64 + 8, plenty, never, []int{64}}, {128, 9*64 + 9, plenty, never, []int{64, 1}}, {128, 9 * 130, 9 * 100, never, []int{64, 64, 2}},
			{128 + 136, plenty, plenty, never, []int{64}}, {128 + 135, plenty, plenty, never, []int{64, 1}}, {128 + 137, plenty, plenty, never, []int{63}},
		} {
			var got []int
			for _, l := range g.is(t, c.from, c.window, c.batch, c.most) {
				got = append(got, len(l))
			}
			if !slices.Equal(got, c.want) {
				t.Errorf("Batches(%s, %d, %d, %d, %d) have %v records, want %v", g.show(), c.from, c.window, c.batch, c.most, got, c.want)
			}
		}
	}
}

// P19.1: records that are as long as may be: 64 of them are a batch, too.
func TestManyLong(t *testing.T) {
	g := empty(t).installed(t, api.MaxOffset-130).with(t, never, slices.Repeat([]api.Rec{whole()}, 130)...).synced(t)
	for window, want := range map[int][]int{
		130 * 81: {64, 64, 2}, 130*81 - 1: {64, 64, 1}, 64 * 81: {64}, 64*81 - 1: {63}, 65 * 81: {64, 1}, plenty: {64, 64, 2},
	} {
		var got []int
		for _, l := range g.is(t, api.MaxOffset-130, window, plenty, never) {
			got = append(got, len(l))
		}
		if !slices.Equal(got, want) {
			t.Errorf("window %d: batches have %v records, want %v", window, got, want)
		}
	}
}

// P19.1: what isn't sure isn't told; a roll makes it sure, and so does a Sync.
func TestNotSure(t *testing.T) {
	g := empty(t).more(t, 5, never)
	tells := func(g log, n int) {
		t.Helper()
		if all := g.is(t, 0, plenty, plenty, 9); n == 0 && len(all) != 0 || n > 0 && (len(all) != 1 || len(all[0]) != n) {
			t.Errorf("Batches of %s: %s, want %d records", g.show(), brief(all), n)
		}
	}
	tells(g, 0)
	tells(g.more(t, 1, 1), 5)
	tells(g.synced(t), 5)
	tells(g.synced(t).more(t, 3, never), 5)
	tells(g.synced(t).more(t, 3, never).synced(t), 8)
	tells(g.synced(t).more(t, 3, never).crashed(t, 0), 5)
	tells(g.synced(t).more(t, 3, never).crashed(t, never), 8)
}

// P19.1, P19.2: opened behind a crash that kept any number of bytes: what came through is told, and no more.
func TestCrash(t *testing.T) {
	g := empty(t).more(t, 9, 80).synced(t).more(t, 4, never)
	opened := map[int]bool{}
	for keep := range size(g.l[9:]...) + 1 {
		g := g.crashed(t, keep)
		for _, off := range []int{0, 5, g.st.Sure - 1, g.st.Sure} {
			for _, batch := range []int{40, 71, plenty} {
				g.is(t, off, plenty, batch, never)
			}
		}
		opened[g.st.Next] = true
	}
	if len(opened) != 5 {
		t.Errorf("behind the crashes there are %v", opened)
	}
}

// broken: the log behind one more Append, with that seg, which its disk lets come to an end or not: each fuse, no power, little room.
func (g log) broken(seg int) []log {
	var l []log
	try := func(d api.Disk) {
		r := rec(g.st.Next)
		st := g.st
		st.Disk = d
		st, err := store.Append(st, seg, r)
		next := log{st, g.base, g.l}
		if err == api.OK {
			next.l = append(slices.Clone(g.l), r)
		}
		l = append(l, next)
	}
	for left := range 9 {
		try(disk.Arm(g.st.Disk, left))
	}
	used := disk.Used(g.st.Disk)
	for room := range 60 {
		try(disk.Limit(g.st.Disk, used+room))
	}
	down := g.st.Disk
	down.Down = true
	try(down)
	return l
}

// P19.1, P19.2: of stores that were answered beside an error, and of those without power, it is told what they have.
func TestBroken(t *testing.T) {
	for _, g := range []log{empty(t).more(t, 6, never), empty(t).more(t, 6, never).synced(t).more(t, 2, never), empty(t).more(t, 30, 150), empty(t).more(t, 30, 150).trimmed(t, 300, never)} {
		for _, seg := range []int{1, never} {
			for _, h := range g.broken(seg) {
				for _, off := range h.offsets() {
					for _, batch := range []int{0, 60, 71, 150, plenty} {
						h.is(t, off, plenty, batch, never)
						h.is(t, off, 200, batch, 2)
					}
				}
			}
		}
	}
}

// P19.1, P19.2: a trim and an install that a fuse ends at each of their steps leave a store of which it is told what it has.
func TestBrokenTrim(t *testing.T) {
	g := empty(t).more(t, 30, 150).synced(t).more(t, 2, never)
	floors := map[int]bool{}
	for left := range 20 {
		st := g.st
		st.Disk = disk.Arm(st.Disk, left)
		cut, _ := trim.Trim(st, 300, never)
		h := log{cut, g.base, g.l}
		for _, off := range h.offsets() {
			h.is(t, off, plenty, 100, never)
		}
		put, _ := install.Install(st, 99, "\x00")
		h = log{put, g.base, g.l}
		for _, off := range h.offsets() {
			h.is(t, off, plenty, 100, never)
		}
		floors[cut.Segs[0].Base], floors[put.Segs[0].Base] = true, true
	}
	if len(floors) != 3 {
		t.Errorf("there are the floors %v", floors)
	}
}

// Beside an error Create and Open tell a store without segments: there is none in it.
func TestNoSegments(t *testing.T) {
	full, _ := store.Create(api.Disk{Cap: 1})
	dark, _ := reopen.Open(api.Disk{Down: true})
	for _, st := range []api.Store{{}, full, dark} {
		for _, off := range []int{math.MinInt, -1, 0, 1, api.MaxOffset, math.MaxInt} {
			for _, most := range mosts {
				if all := Batches(st, off, plenty, plenty, most); len(all) != 0 {
					t.Errorf("Batches at %d, most %d: %s", off, most, brief(all))
				}
			}
		}
	}
}

// roomy: the store in lists of its own, with spare room, in which there are others.
func roomy(st api.Store) api.Store {
	st.Disk.Files = append(slices.Clone(st.Disk.Files), api.File{Name: "u", Data: "other", Sure: 1}, api.File{Name: "v"})[:len(st.Disk.Files)]
	st.Segs = append(slices.Clone(st.Segs), api.Seg{Base: 7, N: 7, Size: 7}, api.Seg{Base: 8})[:len(st.Segs)]
	return st
}

// room: a store's lists with all their spare room, of which nothing is shared.
func room(st api.Store) ([]api.File, []api.Seg) {
	return slices.Clone(st.Disk.Files[:cap(st.Disk.Files)]), slices.Clone(st.Segs[:cap(st.Segs)])
}

// P19.1: nothing that is handed in is changed, its spare room neither.
func TestHandedIn(t *testing.T) {
	for _, g := range some(t) {
		g.st = roomy(g.st)
		files, segs := room(g.st)
		for _, off := range g.offsets() {
			for _, batch := range []int{-1, 0, 9, 71, 200, plenty} {
				g.is(t, off, plenty, batch, never)
				g.is(t, off, 300, batch, 2)
			}
		}
		if nowFiles, nowSegs := room(g.st); !slices.Equal(nowFiles, files) || !slices.Equal(nowSegs, segs) {
			t.Fatalf("of %s what was handed in is another one", g.show())
		}
	}
	l := []api.Rec{rec(1), rec(2), rec(3), rec(9), rec(10)}
	for n := range 4 {
		if got := Bytes(l[:n]); got != size(l[:n]...) {
			t.Errorf("Bytes = %d", got)
		}
	}
	if !slices.Equal(l, []api.Rec{rec(1), rec(2), rec(3), rec(9), rec(10)}) {
		t.Errorf("Bytes changed %v", l)
	}
}

// P19.1: no batch shares its list, or its list's spare room, with another one of the same answer, or of another; nor a list of them with another one.
func TestNothingShared(t *testing.T) {
	g := empty(t).more(t, 150, 900).synced(t)
	for _, batch := range []int{71, 200, plenty} {
		want := g.told(0, plenty, batch, never)
		first, second := g.is(t, 0, plenty, batch, never), g.is(t, 0, plenty, batch, never)
		for i := range second {
			room := second[i][:cap(second[i])]
			for k := range room {
				room[k] = api.Rec{At: -i, Data: "other"}
			}
			if i+1 < len(second) && !slices.Equal(second[i+1], want[i+1]) {
				t.Fatalf("batch %d lies in the room of the one ahead of it", i+1)
			}
		}
		outer := second[:cap(second)]
		for i := range outer {
			outer[i] = nil
		}
		if !alike(first, want) {
			t.Fatalf("what was answered first is another one: %s", brief(first))
		}
		g.is(t, 0, plenty, batch, never)
		g.is(t, 9, plenty, batch, 3)
	}
}

// P19.1: what was told stays, whatever becomes of the log: appended to, synced, trimmed, opened behind a crash.
func TestToldStays(t *testing.T) {
	g := empty(t).more(t, 40, 300).synced(t)
	told := g.is(t, 3, plenty, 150, never)
	want := g.told(3, plenty, 150, never)
	later := g.more(t, 20, 200).synced(t)
	later.is(t, 3, plenty, 150, never)
	later.trimmed(t, 0, 0).is(t, 3, plenty, 150, never)
	later.crashed(t, 0).is(t, 3, plenty, 150, never)
	if !alike(told, want) {
		t.Errorf("what was told is another one: %s", brief(told))
	}
	if again := g.is(t, 3, plenty, 150, never); !alike(again, told) {
		t.Errorf("the same again tells %s", brief(again))
	}
}

// P19.2: answer by answer, each from where the one ahead of it ended, all sure records come, each once.
func TestOnAndOn(t *testing.T) {
	for _, g := range some(t) {
		for _, c := range [][3]int{{100, 81, 2}, {81, 81, 1}, {plenty, 81, 3}, {plenty, plenty, 1}, {400, 200, 8}} {
			off, calls := g.st.Segs[0].Base, 0
			for off < g.st.Sure && calls <= len(g.l) {
				for _, l := range g.is(t, off, c[0], c[1], c[2]) {
					off += len(l)
				}
				calls++
			}
			if off != g.st.Sure || calls > len(g.l) {
				t.Errorf("of %s with %v %d is reached in %d calls", g.show(), c, off, calls)
			}
		}
	}
}

// laid: the log of one segment, from base on, of these records, opened from a disk on which its files were laid.
func laid(t *testing.T, base int, l []api.Rec) log {
	t.Helper()
	snap := "\x00"
	m := api.Man{Ver: 2, Segs: []int{base}, Size: len(snap), Sum: crc.Sum(snap)}
	if base == 0 {
		m.Size, m.Sum = 0, 0
	}
	man, errMan := manifest.Put(m)
	row, errRow := record.Row(l)
	if errMan != api.OK || errRow != api.OK {
		t.Fatalf("errors %d, %d", errMan, errRow)
	}
	d := api.Disk{Files: []api.File{{Name: "m", Data: man}, {Name: fmt.Sprintf("s%013d", base), Data: row}, {Name: fmt.Sprintf("t%013d", base), Data: snap}}}
	st, err := reopen.Open(d)
	return log{fine(t, st, err), base, l}
}

// P19.1, P19.2: the last offsets that there are, also that of a record at MaxOffset, which a log that is opened may have.
func TestLastOffsets(t *testing.T) {
	var l []api.Rec
	for at := api.MaxOffset - 5; at <= api.MaxOffset; at++ {
		l = append(l, rec(at))
	}
	g := laid(t, api.MaxOffset-5, l)
	if g.st.Sure != api.MaxOffset+1 {
		t.Fatalf("there is another log: %s", g.show())
	}
	for off := api.MaxOffset - 7; off <= api.MaxOffset+2; off++ {
		for _, amount := range g.amounts(off) {
			g.is(t, off, plenty, amount, never)
			g.is(t, off, amount, plenty, never)
			g.is(t, off, amount, 81, 2)
		}
	}
}

// P19.1, P19.2: a segment of very many records, in as many batches as there are.
func TestLongSegment(t *testing.T) {
	const n = 100000
	l := make([]api.Rec, n)
	for i := range l {
		l[i] = api.Rec{At: i, Data: "d"}
	}
	g := laid(t, 0, l)
	for _, c := range []struct{ from, batch, want int }{{0, 10, n}, {0, 7, 0}, {n / 2, 10, n / 2}, {0, plenty, (n + 63) / 64}, {0, 640, (n + 63) / 64}, {n - 64, plenty, 1}, {n - 65, plenty, 2}} {
		// Held against the words alone: to read each record of its own takes as long as all that are ahead of it.
		all := Batches(g.st, c.from, plenty, c.batch, never)
		if len(all) != c.want || !alike(all, g.told(c.from, plenty, c.batch, never)) {
			t.Errorf("batches of %d bytes from %d on: %s, want %d", c.batch, c.from, brief(all), c.want)
		}
	}
}

// next: the log behind one more call.
func (g log) next(t *testing.T, r *rand.Rand) log {
	t.Helper()
	switch r.Intn(12) {
	case 0:
		return g.synced(t)
	case 1:
		return g.trimmed(t, r.Intn(1500), 1+r.Intn(300))
	case 2:
		return g.crashed(t, r.Intn(90))
	case 3:
		if r.Intn(8) == 0 {
			return g.installed(t, g.st.Next+1+r.Intn(200))
		}
	}
	seg := []int{20, 200, 1000}[r.Intn(3)]
	if len(g.st.Segs) > 40 {
		seg = never
	}
	for range 1 + r.Intn(9) {
		g = g.with(t, seg, api.Rec{Time: r.Intn(1 << r.Intn(40)), Data: strings.Repeat("h", r.Intn(api.MaxPayload+1))})
	}
	return g
}

// P19.1, P19.2: long histories of appends, rolls, syncs, trims, installs, and opens behind a crash: asked at each step, at all kinds of offsets, windows, batches and mosts.
func TestHistory(t *testing.T) {
	for seed := range 20 {
		r := rand.New(rand.NewSource(int64(seed)))
		g := empty(t)
		for range 120 {
			g = g.next(t, r)
			floor := g.st.Segs[0].Base
			for range 12 {
				off := floor - 3 + r.Intn(g.st.Next-floor+6)
				g.is(t, off, r.Intn(1<<r.Intn(14)), r.Intn(1<<r.Intn(10)), r.Intn(9))
				g.is(t, off, plenty, 81+r.Intn(600), never)
			}
		}
	}
}

// The same again answers the same, whatever was asked between.
func TestNothingKept(t *testing.T) {
	a, b := empty(t).more(t, 20, 150).synced(t), empty(t).with(t, never, slices.Repeat([]api.Rec{whole()}, 30)...).synced(t)
	for range 3 {
		a.is(t, 2, 300, 100, 5)
		b.is(t, 0, plenty, plenty, never)
		a.is(t, -1, plenty, plenty, 5)
		b.is(t, 29, 81, 81, 1)
		if n := Bytes(a.l[:3]); n != size(a.l[:3]...) {
			t.Errorf("Bytes = %d", n)
		}
	}
}
