package sparse

import (
	"math"
	"math/rand"
	"slices"
	"testing"

	"wagoner/api"
)

// mark: of that offset, at that place.
func mark(off, pos int) api.Mark {
	return api.Mark{Off: off, Pos: pos}
}

// row: so many marks, whose offsets rise by step and whose places rise unlike.
func row(n, off, step int) []api.Mark {
	var l []api.Mark
	pos := 0
	for i := range n {
		l = append(l, mark(off+i*step, pos))
		pos += 5 + i%17
	}
	return l
}

// lists: of marks that may be: none, one, many; close together and far; at the ends of what may be.
func lists() [][]api.Mark {
	l := [][]api.Mark{
		nil,
		{},
		{mark(0, 0)}, {mark(1, 0)}, {mark(0, 1)}, {mark(1, 1)}, {mark(7, 3)},
		{mark(api.MaxOffset, 1<<30)}, {mark(math.MaxInt, math.MaxInt)}, {mark(math.MaxInt, 0)}, {mark(0, math.MaxInt)},
		{mark(0, 0), mark(1, 1)}, {mark(0, 5), mark(9, 6)}, {mark(3, 0), mark(4, 1000)},
		{mark(0, 0), mark(math.MaxInt, math.MaxInt)}, {mark(math.MaxInt-1, math.MaxInt-1), mark(math.MaxInt, math.MaxInt)},
		{mark(10, 0), mark(13, 30), mark(16, 60)},
		{mark(0, 0), mark(1, 1), mark(2, 2)}, {mark(1, 9), mark(5, 10), mark(6, 11), mark(1000, 1<<40)},
		{mark(0, 0), mark(1, 1), mark(math.MaxInt/2, 2), mark(math.MaxInt/2+1, 3), mark(math.MaxInt-1, 4), mark(math.MaxInt, 5)},
	}
	for n := 3; n < 70; n++ {
		l = append(l, row(n, 0, 1), row(n, n, 3))
	}
	return append(l, row(1000, 5, 2), row(1023, 0, 7), row(1024, 1, 1000), row(1025, api.MaxOffset-1025, 1))
}

// mayBe: may the marks be, by the chapter's words?
func mayBe(l []api.Mark) bool {
	for i, m := range l {
		if m.Off < 0 || m.Pos < 0 {
			return false
		}
		if i > 0 && !(l[i-1].Off < m.Off && l[i-1].Pos < m.Pos) {
			return false
		}
	}
	return true
}

// behind: what Add tells, by the chapter's words, in a list of its own.
func behind(l []api.Mark, base, every int, m api.Mark) []api.Mark {
	own := slices.Clone(l)
	if (m.Off-base)%every == 0 {
		own = append(own, m)
	}
	return own
}

// found: what Find tells, by the chapter's words.
func found(l []api.Mark, off int) (api.Mark, bool) {
	for i := len(l) - 1; i >= 0; i-- {
		if l[i].Off <= off {
			return l[i], true
		}
	}
	return api.Mark{}, false
}

// short: as much of a list as is told of a fault.
func short(l []api.Mark) []api.Mark {
	return l[:min(len(l), 8)]
}

// right fails the test unless Right tells that of the marks.
func right(t *testing.T, l []api.Mark, want bool) {
	t.Helper()
	if got := Right(l); got != want {
		t.Errorf("Right of %d marks %v = %v, want %v", len(l), short(l), got, want)
	}
}

// same fails the test unless both are the same marks.
func same(t *testing.T, what string, got, want []api.Mark) {
	t.Helper()
	if !slices.Equal(got, want) {
		t.Errorf("%s: %d marks %v, want %d marks %v", what, len(got), short(got), len(want), short(want))
	}
}

// add fails the test unless Add tells what the chapter's words say.
func add(t *testing.T, l []api.Mark, base, every int, m api.Mark) {
	t.Helper()
	want := behind(l, base, every, m)
	if got := Add(l, base, every, m); !slices.Equal(got, want) {
		t.Errorf("Add(%d marks %v, %d, %d, %v) = %d marks, the last ones %v, want %d", len(l), short(l), base, every, m, len(got), got[max(len(got)-2, 0):], len(want))
	}
}

// find fails the test unless Find tells what the chapter's words say.
func find(t *testing.T, l []api.Mark, off int) {
	t.Helper()
	got, ok := Find(l, off)
	if want, there := found(l, off); got != want || ok != there {
		t.Errorf("Find(%d marks %v, %d) = %v, %v, want %v, %v", len(l), short(l), off, got, ok, want, there)
	}
}

// roomy: the marks in a list with spare room, and all of its room, with what stands there.
func roomy(l []api.Mark) ([]api.Mark, []api.Mark) {
	all := slices.Clone(l)
	for i := range 5 {
		all = append(all, mark(-70-i, 7000+i))
	}
	return all[:len(l)], all
}

// P8.1: marks that may be: none, one, many.
func TestRight(t *testing.T) {
	for _, l := range lists() {
		right(t, l, true)
	}
}

// wrong: what may not stand there amid marks that may be: an offset or a place that is the same as the one ahead, below it, below 0.
func wrong(good []api.Mark, at int) []api.Mark {
	m := good[at]
	var l []api.Mark
	for _, n := range []int{-1, -2, -100, math.MinInt32, math.MinInt + 1, math.MinInt} {
		l = append(l, mark(n, m.Pos), mark(m.Off, n), mark(n, n))
	}
	if at == 0 {
		return l
	}
	last := good[at-1]
	l = append(l, mark(last.Off, m.Pos), mark(m.Off, last.Pos), last)
	for _, less := range []int{1, 2, last.Off, last.Pos} {
		l = append(l, mark(last.Off-less, m.Pos), mark(m.Off, last.Pos-less), mark(last.Off-less, last.Pos-less))
		l = append(l, mark(last.Off, last.Pos-less), mark(last.Off-less, last.Pos))
	}
	return l
}

// P8.1: one of them doesn't rise, or is below 0: the first one, one amid them, the last one.
func TestRightWrong(t *testing.T) {
	for _, good := range lists() {
		if len(good) == 0 {
			continue
		}
		for _, at := range []int{0, 1, len(good) / 2, len(good) - 2, len(good) - 1} {
			if at < 0 || at >= len(good) {
				continue
			}
			for _, m := range wrong(good, at) {
				bad := slices.Clone(good)
				bad[at] = m
				right(t, bad, false)
				right(t, bad[:at+1], false)
			}
		}
		right(t, append(slices.Clone(good), good[0]), false)
		right(t, append(slices.Clone(good), good...), false)
		right(t, slices.Insert(slices.Clone(good), 0, good[0]), false)
	}
}

// P8.1: offsets that rise beside places that don't, and the other way round.
func TestRightOne(t *testing.T) {
	for _, l := range [][]api.Mark{
		{mark(0, 1), mark(1, 0)},
		{mark(1, 0), mark(0, 1)},
		{mark(0, 0), mark(1, 0)},
		{mark(0, 0), mark(0, 1)},
		{mark(0, 0), mark(0, 0)},
		{mark(5, 5), mark(6, 6), mark(7, 6)},
		{mark(5, 5), mark(6, 6), mark(6, 7)},
		{mark(5, 5), mark(6, 5), mark(7, 6)},
		{mark(5, 5), mark(5, 6), mark(6, 7)},
		{mark(1, 1), mark(3, 3), mark(2, 4)},
		{mark(1, 1), mark(3, 3), mark(4, 2)},
		{mark(2, 1), mark(1, 2), mark(3, 3)},
		{mark(-2, -2), mark(-1, -1)},
		{mark(-1, 0), mark(0, 1)},
		{mark(0, -1), mark(1, 0)},
		{mark(0, -1)}, {mark(-1, 0)}, {mark(-1, -1)},
		{mark(math.MinInt, math.MinInt)}, {mark(math.MinInt, math.MaxInt)}, {mark(math.MaxInt, math.MinInt)},
		{mark(0, 0), mark(math.MinInt, math.MinInt)},
		{mark(math.MaxInt, math.MaxInt), mark(0, 0)},
		{mark(math.MaxInt, math.MaxInt), mark(math.MinInt, math.MinInt)},
	} {
		right(t, l, false)
	}
}

// P8.1: all short lists of small numbers, by the chapter's words.
func TestRightAll(t *testing.T) {
	told := map[bool]int{}
	var all func(l []api.Mark)
	all = func(l []api.Mark) {
		right(t, l, mayBe(l))
		told[mayBe(l)]++
		if len(l) == 3 {
			return
		}
		for off := -1; off < 4; off++ {
			for pos := -1; pos < 4; pos++ {
				all(append(slices.Clone(l), mark(off, pos)))
			}
		}
	}
	all(nil)
	if told[true] < 40 || told[false] < 1000 {
		t.Errorf("lists: %v", told)
	}
}

// P8.1: the chapter's example, step by step.
func TestAddExample(t *testing.T) {
	var l []api.Mark
	for off := 10; off <= 17; off++ {
		l = Add(l, 10, 3, mark(off, 9*(off-10)))
	}
	same(t, "every 3, from 10 on", l, []api.Mark{mark(10, 0), mark(13, 27), mark(16, 54)})
	for off, want := range map[int]int{10: 10, 11: 10, 12: 10, 13: 13, 14: 13, 15: 13, 16: 16, 17: 16, 18: 16, math.MaxInt: 16} {
		if m, ok := Find(l, off); !ok || m != mark(want, 9*(want-10)) {
			t.Errorf("Find of %d = %v, %v, want %d", off, m, ok, want)
		}
	}
	for _, off := range []int{9, 0, -1, math.MinInt} {
		if m, ok := Find(l, off); ok || m != (api.Mark{}) {
			t.Errorf("Find of %d = %v, %v, want none", off, m, ok)
		}
	}
}

// P8.1: an offset that is just the base, one more, around each multiple of every behind it; behind none, one, many.
func TestAdd(t *testing.T) {
	for _, l := range [][]api.Mark{nil, {}, {mark(0, 0)}, row(7, 0, 1), row(100, 0, 2)} {
		for _, base := range []int{0, 1, 2, 3, 7, 10, 1000, api.MaxOffset} {
			for _, every := range []int{1, 2, 3, 4, 7, 10, 64, 1000, 1 << 40} {
				for times := range 4 {
					for near := -2; near <= 2; near++ {
						if off := base + times*every + near; off >= base {
							add(t, l, base, every, mark(off, off+5))
						}
					}
				}
			}
		}
	}
}

// P8.1: all small bases, everies and offsets: what is added is told by itself.
func TestAddSmall(t *testing.T) {
	for base := range 12 {
		for every := 1; every < 12; every++ {
			// Counted, not divided.
			left := 0
			for off := base; off < base+50; off++ {
				m := mark(off, 3*off)
				got := Add(nil, base, every, m)
				if want := left == 0; (len(got) == 1) != want || len(got) > 1 || want && got[0] != m {
					t.Errorf("Add(nil, %d, %d, %v) = %v", base, every, m, got)
				}
				left = (left + 1) % every
			}
		}
	}
}

// P8.1: bases, everies and offsets at the end of what an int may be.
func TestAddGreat(t *testing.T) {
	const most = math.MaxInt
	for _, c := range []struct {
		base, every, off int
		kept             bool
	}{
		{0, most, 0, true}, {0, most, 1, false}, {0, most, most - 1, false}, {0, most, most, true},
		{1, most, 1, true}, {1, most, most, false}, {0, most - 1, most - 1, true}, {1, most - 1, most, true}, {0, most - 1, most, false},
		{most, 1, most, true}, {most, most, most, true}, {most, 2, most, true}, {most - 1, 1, most, true}, {most - 1, 2, most, false},
		{0, 1, most, true}, {0, 2, most, false}, {1, 2, most, true}, {0, 2, most - 1, true}, {most - 2, 2, most, true},
		{0, 7, most, true}, {0, 7, most - 1, false}, {0, 5, most, false}, {2, 5, most, true},
		{0, 1 << 62, 1 << 62, true}, {0, 1 << 62, most, false}, {0, 1 << 62, 1<<62 - 1, false},
		{0, api.MaxOffset, api.MaxOffset, true}, {0, api.MaxOffset, api.MaxOffset - 1, false}, {0, 1 << 32, 1 << 40, true}, {0, 1 << 32, 1<<40 + 1<<31, false}, {1 << 32, 3, 1<<32 + 3, true}, {1 << 32, 3, 1<<32 + 2, false},
	} {
		for _, l := range [][]api.Mark{nil, {mark(0, 0)}, row(9, 0, 1)} {
			m := mark(c.off, 8)
			want := slices.Clone(l)
			if c.kept {
				want = append(want, m)
			}
			if got := Add(l, c.base, c.every, m); !slices.Equal(got, want) {
				t.Errorf("Add(%v, %d, %d, %v) = %v, want %v", l, c.base, c.every, m, got, want)
			}
		}
	}
}

// P8.1: only the offset counts: not the place, nor what stands ahead, be it marks that may be or not.
func TestAddOnlyOffset(t *testing.T) {
	many := row(20, 100, 1)
	turned := slices.Clone(many)
	slices.Reverse(turned)
	for _, l := range [][]api.Mark{nil, {mark(6, 6)}, {mark(9, 9)}, {mark(-1, -1)}, {mark(6, 6), mark(6, 6)}, many, turned} {
		for _, pos := range []int{0, 1, 6, -1, 100, math.MaxInt, math.MinInt} {
			same(t, "one that is kept", Add(l, 2, 4, mark(6, pos)), append(slices.Clone(l), mark(6, pos)))
			for _, off := range []int{3, 4, 5, 7} {
				same(t, "one that isn't", Add(l, 2, 4, mark(off, pos)), l)
			}
		}
	}
}

// What the chapter doesn't ask for ends, too: an every below 1, a base below 0, an offset below the base, marks that may not be.
func TestNotAsked(t *testing.T) {
	ends := []int{0, 1, 2, -1, -2, -7, math.MinInt, math.MinInt + 1, math.MaxInt}
	for _, l := range [][]api.Mark{nil, {}, {mark(5, 5)}, {mark(5, 5), mark(3, 3), mark(3, 3)}, {mark(-1, -1), mark(math.MinInt, 0), mark(math.MaxInt, 0)}} {
		for _, base := range ends {
			for _, every := range ends {
				for _, off := range ends {
					got := Add(l, base, every, mark(off, 1))
					if n := len(got) - len(l); n < 0 || n > 1 || !slices.Equal(got[:len(l)], l) {
						t.Errorf("Add(%v, %d, %d, %d) = %v", l, base, every, off, got)
					}
				}
			}
			m, ok := Find(l, base)
			if ok && !slices.Contains(l, m) || !ok && m != (api.Mark{}) {
				t.Errorf("Find(%v, %d) = %v, %v", l, base, m, ok)
			}
		}
	}
}

// P8.1: each mark's offset, and those around it, and those between two, below all, above all, at the ends of what an int may be.
func TestFind(t *testing.T) {
	for _, l := range lists() {
		for _, off := range []int{math.MinInt, math.MinInt + 1, math.MinInt32, -2, -1, 0, 1, 2, math.MaxInt / 2, math.MaxInt - 1, math.MaxInt} {
			find(t, l, off)
		}
		for i, m := range l {
			find(t, l, m.Off-1)
			find(t, l, m.Off)
			if m.Off < math.MaxInt {
				find(t, l, m.Off+1)
			}
			if i > 0 {
				find(t, l, m.Off/2+l[i-1].Off/2)
			}
		}
	}
}

// P8.1: marks that are told word by word.
func TestFindEdges(t *testing.T) {
	l := []api.Mark{mark(5, 2), mark(9, 11), mark(10, 40), mark(20, 41)}
	for _, c := range []struct {
		off int
		ok  bool
		m   api.Mark
	}{
		{math.MinInt, false, api.Mark{}}, {-1, false, api.Mark{}}, {0, false, api.Mark{}}, {4, false, api.Mark{}},
		{5, true, l[0]}, {6, true, l[0]}, {8, true, l[0]},
		{9, true, l[1]}, {10, true, l[2]}, {11, true, l[2]}, {19, true, l[2]},
		{20, true, l[3]}, {21, true, l[3]}, {41, true, l[3]}, {math.MaxInt, true, l[3]},
	} {
		if m, ok := Find(l, c.off); m != c.m || ok != c.ok {
			t.Errorf("Find of %d = %v, %v, want %v, %v", c.off, m, ok, c.m, c.ok)
		}
	}
	if m, ok := Find([]api.Mark{mark(0, 0)}, 0); !ok || m != mark(0, 0) {
		t.Errorf("Find of 0 in the mark of noughts = %v, %v", m, ok)
	}
	if m, ok := Find([]api.Mark{mark(0, 3)}, -1); ok || m != (api.Mark{}) {
		t.Errorf("Find below 0 = %v, %v", m, ok)
	}
}

// P8.1: marks of any gaps, in lists of any length, at any offset.
func TestFindAny(t *testing.T) {
	r := rand.New(rand.NewSource(8))
	for range 3000 {
		var l []api.Mark
		m := mark(r.Intn(5), r.Intn(5))
		for range r.Intn(40) {
			l = append(l, m)
			m.Off, m.Pos = m.Off+1+r.Intn(1<<r.Intn(12)), m.Pos+1+r.Intn(300)
		}
		right(t, l, true)
		for range 30 {
			find(t, l, r.Intn(m.Off+10)-3)
		}
	}
}

// records: so many records in a row, from base on, of unlike sizes: where each stands.
func records(r *rand.Rand, n, base, most int) []api.Mark {
	var l []api.Mark
	pos := 0
	for i := range n {
		l = append(l, mark(base+i, pos))
		pos += 1 + r.Intn(most)
	}
	return l
}

// P8.2: of marks made of records in a row one of every so many is kept, the first one first.
func TestKept(t *testing.T) {
	r := rand.New(rand.NewSource(88))
	for _, n := range []int{0, 1, 2, 3, 10, 63, 64, 65, 500} {
		for _, base := range []int{0, 1, 2, 10, 12345, api.MaxOffset - 500} {
			for _, every := range []int{1, 2, 3, 4, 9, 10, 64, 499, 500, 501, 1 << 40, math.MaxInt} {
				for _, most := range []int{1, 90, 65536} {
					all := records(r, n, base, most)
					var l, want []api.Mark
					for i, m := range all {
						l = Add(l, base, every, m)
						if i%every == 0 {
							want = append(want, m)
						}
					}
					same(t, "one of every so many", l, want)
					right(t, l, true)
					near(t, all, l, every)
				}
			}
		}
	}
}

// near fails the test unless the mark found for each record is its own or that of one ahead, less than so many behind.
func near(t *testing.T, all, l []api.Mark, every int) {
	t.Helper()
	for i, m := range all {
		got, ok := Find(l, m.Off)
		back := m.Off - got.Off
		if !ok || back < 0 || back >= every || got != all[i-back] {
			t.Errorf("every %d: Find of %d (the record %d) = %v, %v", every, m.Off, i, got, ok)
		}
	}
	if len(all) == 0 {
		return
	}
	if m, ok := Find(l, all[0].Off-1); ok || m != (api.Mark{}) {
		t.Errorf("below the base there is %v, %v", m, ok)
	}
	if m, ok := Find(l, math.MaxInt); !ok || m != l[len(l)-1] {
		t.Errorf("above all there is %v, %v", m, ok)
	}
}

// P8.1: what is handed in stays as it was, its spare room too, and so does it behind what was told of it.
func TestNothingChanged(t *testing.T) {
	for _, own := range lists() {
		l, room := roomy(own)
		was := slices.Clone(room)
		Right(l)
		for _, off := range []int{math.MinInt, 0, 5, 1000, math.MaxInt} {
			Find(l, off)
		}
		same(t, "after Right and Find", room, was)
		var told, as [][]api.Mark
		for off := range 12 {
			got := Add(l, 0, 3, mark(off, off))
			told, as = append(told, got), append(as, behind(own, 0, 3, mark(off, off)))
			same(t, "after Add", room, was)
			// What is told may be handed in again.
			for more := range 4 {
				next := Add(got, 0, 1, mark(100+more, 9))
				told, as = append(told, next), append(as, append(slices.Clone(as[off*5]), mark(100+more, 9)))
			}
		}
		for i := range told {
			same(t, "told ahead of others", told[i], as[i])
		}
		same(t, "after all", room, was)
	}
}

// P8.1: elder marks stay as they were, whatever is put behind them, or behind those that follow.
func TestElder(t *testing.T) {
	r := rand.New(rand.NewSource(888))
	for _, every := range []int{1, 2, 3} {
		told, as := [][]api.Mark{nil}, [][]api.Mark{nil}
		for i := range 600 {
			from := r.Intn(len(told))
			if i%2 == 0 {
				// Mostly one behind the other, so that there might be spare room that is shared.
				from = len(told) - 1
			}
			m := mark(r.Intn(50), i)
			told, as = append(told, Add(told[from], 0, every, m)), append(as, behind(as[from], 0, every, m))
		}
		for i := range told {
			same(t, "an elder one", told[i], as[i])
		}
	}
}

// P8.1: the same again answers the same, whatever was asked between.
func TestNothingKept(t *testing.T) {
	for _, l := range lists() {
		a := slices.Clone(Add(l, 1, 2, mark(7, 7)))
		m, ok := Find(l, 8)
		Right([]api.Mark{mark(-1, 0)})
		Add(row(9, 0, 1), 0, 1, mark(8, 8))
		Find(row(9, 0, 1), 4)
		same(t, "again", Add(l, 1, 2, mark(7, 7)), a)
		if n, there := Find(l, 8); n != m || there != ok {
			t.Errorf("Find again = %v, %v, want %v, %v", n, there, m, ok)
		}
		right(t, l, true)
	}
}
