package retain

import (
	"math"
	"math/rand"
	"slices"
	"testing"

	"wagoner/api"
)

const (
	most  = 4096          // segments that Pick and Bytes are asked of
	great = api.MaxOffset // the greatest N and Size
)

// ends: keeps and counts that no sums come near to, and those around 0.
var ends = []int{math.MinInt, math.MinInt + 1, -1 << 53, math.MinInt32, -great, -2, -1, 0, 1, 2, great - 1, great, great + 1, math.MaxInt32, 1 << 53, math.MaxInt - 1, math.MaxInt}

// log: a log's segments of these sizes, the last one the one that is written to, each of so many records.
func log(records []int, sizes []int) []api.Seg {
	var l []api.Seg
	base := 0
	for i, size := range sizes {
		l = append(l, api.Seg{Base: base, N: records[i], Size: size})
		base += records[i]
	}
	return l
}

// alike: so many segments, each of so many records and bytes.
func alike(n, records, size int) []api.Seg {
	return log(slices.Repeat([]int{records}, n), slices.Repeat([]int{size}, n))
}

// random: so many segments of up to so many records and bytes.
func random(r *rand.Rand, n, records, size int) []api.Seg {
	var l []api.Seg
	for range n {
		l = append(l, api.Seg{Base: r.Intn(1000), N: r.Intn(records + 1), Size: r.Intn(size + 1)})
	}
	return l
}

// kept: the bytes of all but the last one, and the records of all.
func kept(l []api.Seg) (int, int) {
	bytes, records := 0, 0
	for i, s := range l {
		if i < len(l)-1 {
			bytes += s.Size
		}
		records += s.N
	}
	return bytes, records
}

// tooMuch: is too much kept, by the chapter's words?
func tooMuch(l []api.Seg, keep, count int) bool {
	bytes, records := kept(l)
	return len(l) > 1 && (bytes > keep || records > count)
}

// least: what Pick tells, by the chapter's words: how many are taken, one by one, until not too much is left.
func least(l []api.Seg, keep, count int) int {
	bytes, records := kept(l)
	for k, s := range l {
		if len(l)-k < 2 || bytes <= keep && records <= count {
			return k
		}
		bytes -= s.Size
		records -= s.N
	}
	return 0
}

// lists: of none, one, two, some, 4096 segments; of N and Size of 0, of 1, of 2^40, in one of them and in all.
func lists() [][]api.Seg {
	l := [][]api.Seg{nil, {}}
	numbers := []int{0, 1, great}
	for _, n := range []int{1, 2, 3, 4, 7, 64, 65} {
		for _, records := range numbers {
			for _, size := range numbers {
				l = append(l, alike(n, records, size))
				for _, at := range []int{0, n / 2, n - 1} {
					one := alike(n, 7, 90)
					one[at] = api.Seg{Base: one[at].Base, N: records, Size: size}
					l = append(l, one)
				}
			}
		}
	}
	r := rand.New(rand.NewSource(11))
	for n := range 40 {
		l = append(l, random(r, n, 3, 5), random(r, n, 1000, 100000), random(r, n, great, great))
	}
	return append(l, full()...)
}

// full: of 4096 segments.
func full() [][]api.Seg {
	r := rand.New(rand.NewSource(1111))
	l := [][]api.Seg{random(r, most, 9, 9), random(r, most, great, great), random(r, most-1, 1, 1)}
	for _, records := range []int{0, 1, great} {
		for _, size := range []int{0, 1, great} {
			l = append(l, alike(most, records, size))
		}
	}
	return l
}

// near: a number, one less, one more.
func near(n int) []int {
	return []int{n - 1, n, n + 1}
}

// places: of a list some from which on it may be left: the first ones, the last ones, some between; no more than there are.
func places(n int) []int {
	var l []int
	for _, k := range []int{0, 1, 2, 3, n / 3, n / 2, n - 3, n - 2, n - 1} {
		if k >= 0 && k < n && !slices.Contains(l, k) {
			l = append(l, k)
		}
	}
	return l
}

// short: as much of a list as is told of a fault.
func short(l []api.Seg) []api.Seg {
	return l[:min(len(l), 8)]
}

// pick fails the test unless Pick tells that.
func pick(t *testing.T, l []api.Seg, keep, count, want int) {
	t.Helper()
	if got := Pick(l, keep, count); got != want {
		t.Errorf("Pick(%d segments %v, %d, %d) = %d, want %d", len(l), short(l), keep, count, got, want)
	}
}

// sum fails the test unless Bytes tells that.
func sum(t *testing.T, l []api.Seg, want int) {
	t.Helper()
	if got := Bytes(l); got != want {
		t.Errorf("Bytes(%d segments %v) = %d, want %d", len(l), short(l), got, want)
	}
}

// P11.1: the chapter's example, and what is kept around it.
func TestExample(t *testing.T) {
	l := log([]int{1, 1, 1, 1}, []int{10, 20, 30, 5})
	pick(t, l, 50, 9, 1)
	sum(t, l, 65)
	for keep, want := range map[int]int{60: 0, 61: 0, 59: 1, 51: 1, 49: 2, 31: 2, 30: 2, 29: 3, 1: 3, 0: 3, -1: 3, 65: 0, math.MaxInt: 0, math.MinInt: 3} {
		pick(t, l, keep, 9, want)
		pick(t, l, keep, 4, want)
		pick(t, l, keep, 3, max(want, 1))
		pick(t, l, keep, 2, max(want, 2))
		pick(t, l, keep, 1, 3)
		pick(t, l, keep, 0, 3)
		pick(t, l, keep, -1, 3)
	}
}

// P11.1: of no segment and of one none goes, whatever may be kept: less than one isn't too much.
func TestNoneAndOne(t *testing.T) {
	few := [][]api.Seg{nil, {}}
	for _, n := range []int{0, 1, 2, 9, 64, great - 1, great} {
		few = append(few, alike(1, n, n), alike(1, n, 0), alike(1, 0, n), []api.Seg{{Base: great, N: n, Size: 5}})
	}
	for _, l := range few {
		for _, keep := range ends {
			for _, count := range ends {
				pick(t, l, keep, count, 0)
			}
		}
	}
}

// P11.1: of two the first one goes, or none; the last one's bytes don't count, its records do.
func TestTwo(t *testing.T) {
	for _, c := range []struct {
		records, sizes [2]int
		keep, count    int
		want           int
	}{
		{[2]int{0, 0}, [2]int{0, 0}, 0, 0, 0},
		{[2]int{0, 0}, [2]int{0, 0}, -1, 0, 1}, {[2]int{0, 0}, [2]int{0, 0}, 0, -1, 1}, {[2]int{0, 0}, [2]int{0, 0}, -1, -1, 1},
		{[2]int{1, 0}, [2]int{9, 0}, 9, 1, 0}, {[2]int{1, 0}, [2]int{9, 0}, 8, 1, 1}, {[2]int{1, 0}, [2]int{9, 0}, 9, 0, 1}, {[2]int{1, 0}, [2]int{9, 0}, 10, 2, 0},
		{[2]int{1, 1}, [2]int{9, 9}, 9, 2, 0}, {[2]int{1, 1}, [2]int{9, 9}, 8, 2, 1}, {[2]int{1, 1}, [2]int{9, 9}, 9, 1, 1}, {[2]int{1, 1}, [2]int{9, 9}, 17, 2, 0},
		{[2]int{0, 3}, [2]int{0, 27}, 0, 3, 0}, {[2]int{0, 3}, [2]int{0, 27}, 0, 2, 1}, {[2]int{0, 3}, [2]int{0, 27}, -1, 3, 1},
		{[2]int{3, 0}, [2]int{27, 0}, 27, 3, 0}, {[2]int{3, 0}, [2]int{27, 0}, 27, 2, 1}, {[2]int{3, 0}, [2]int{27, 0}, 26, 3, 1},
		{[2]int{0, 0}, [2]int{0, great}, 0, 0, 0}, {[2]int{0, 0}, [2]int{great, 0}, great, 0, 0}, {[2]int{0, 0}, [2]int{great, 0}, great - 1, 0, 1},
		{[2]int{great, great}, [2]int{great, great}, great, 2 * great, 0}, {[2]int{great, great}, [2]int{great, great}, great, 2*great - 1, 1},
		{[2]int{great, great}, [2]int{great, great}, great - 1, 2 * great, 1}, {[2]int{great, 0}, [2]int{0, great}, 0, great, 0}, {[2]int{0, great}, [2]int{0, great}, 0, great - 1, 1},
	} {
		l := log(c.records[:], c.sizes[:])
		pick(t, l, c.keep, c.count, c.want)
		sum(t, l, c.sizes[0]+c.sizes[1])
	}
}

// P11.1: the bytes alone are too much, the records alone, both, none.
func TestBytesAndRecords(t *testing.T) {
	l := log([]int{4, 3, 2, 1, 5}, []int{10, 20, 30, 40, 50})
	for _, c := range []struct{ keep, count, want int }{
		{100, 15, 0}, {101, 16, 0}, {math.MaxInt, math.MaxInt, 0}, {math.MaxInt, 15, 0}, {100, math.MaxInt, 0},
		{99, 15, 1}, {90, 15, 1}, {89, 15, 2}, {70, 15, 2}, {69, 15, 3}, {40, 15, 3}, {39, 15, 4}, {0, 15, 4}, {-1, 15, 4}, {math.MinInt, 15, 4}, {math.MinInt, math.MaxInt, 4},
		{100, 14, 1}, {100, 11, 1}, {100, 10, 2}, {100, 8, 2}, {100, 7, 3}, {100, 6, 3}, {100, 5, 4}, {100, 4, 4}, {100, 0, 4}, {100, -1, 4}, {100, math.MinInt, 4}, {math.MaxInt, math.MinInt, 4},
		{99, 14, 1}, {89, 14, 2}, {99, 10, 2}, {69, 10, 3}, {89, 7, 3}, {39, 7, 4}, {69, 5, 4}, {0, 0, 4}, {-1, -1, 4}, {math.MinInt, math.MinInt, 4},
	} {
		pick(t, l, c.keep, c.count, c.want)
	}
}

// P11.1: the last one alone is more than keep (which doesn't count), or more than count (which does, while there is another one).
func TestLastAlone(t *testing.T) {
	for _, n := range []int{2, 3, 10, most} {
		for _, last := range []api.Seg{{N: 100, Size: 9000}, {N: 100, Size: great}, {N: great, Size: 9000}, {N: great, Size: great}} {
			l := alike(n, 1, 9)
			l[n-1] = last
			bytes, records := 9*(n-1), last.N+n-1
			pick(t, l, bytes, records, 0)
			pick(t, l, bytes-1, records, 1)
			pick(t, l, bytes, records-1, 1)
			pick(t, l, 9, records, n-2)
			pick(t, l, 8, records, n-1)
			pick(t, l, 0, records, n-1)
			pick(t, l, bytes, last.N+1, n-2)
			for _, count := range []int{last.N, last.N - 1, 1, 0, -1, math.MinInt} {
				pick(t, l, math.MaxInt, count, n-1)
			}
		}
		// Without records ahead of it they need not go for its own, if these may be kept.
		l := alike(n, 0, 0)
		l[n-1] = api.Seg{N: 100, Size: 9000}
		pick(t, l, 0, 100, 0)
		pick(t, l, 0, 99, n-1)
		pick(t, l, -1, 100, n-1)
	}
}

// P11.1: segments without bytes, or without records, go just as far as they must.
func TestEmptyOnes(t *testing.T) {
	l := log([]int{0, 2, 0, 0, 3, 0}, []int{0, 0, 7, 0, 0, 0})
	for _, c := range []struct{ keep, count, want int }{
		{7, 5, 0}, {6, 5, 3}, {0, 5, 3}, {-1, 5, 5}, {7, 4, 2}, {7, 3, 2}, {7, 2, 5}, {7, 0, 5}, {7, -1, 5}, {6, 4, 3}, {6, 2, 5},
	} {
		pick(t, l, c.keep, c.count, c.want)
	}
	sum(t, l, 7)
}

// P11.1: 4096 segments of 2^40 each, of 1 each, of 0 each, and the keep and the count that their sums reach.
func TestAllGreat(t *testing.T) {
	for _, one := range []int{1, great} {
		l := alike(most, one, one)
		sum(t, l, most*one)
		allBytes, allRecords := (most-1)*one, most*one
		pick(t, l, allBytes, allRecords, 0)
		pick(t, l, allBytes+1, allRecords+1, 0)
		pick(t, l, allBytes-1, allRecords, 1)
		pick(t, l, allBytes, allRecords-1, 1)
		pick(t, l, allBytes-1, allRecords-1, 1)
		for _, k := range places(most) {
			pick(t, l, allBytes-k*one, math.MaxInt, k)
			pick(t, l, allBytes-k*one-1, math.MaxInt, min(k+1, most-1))
			pick(t, l, math.MaxInt, allRecords-k*one, k)
			pick(t, l, math.MaxInt, allRecords-k*one-1, min(k+1, most-1))
			pick(t, l, allBytes-k*one, allRecords-(most-1-k)*one, max(k, most-1-k))
		}
		for _, no := range []int{0, -1, math.MinInt} {
			pick(t, l, no, math.MaxInt, most-1)
			pick(t, l, math.MaxInt, no, most-1)
			pick(t, l, no, no, most-1)
		}
	}
	l := alike(most, 0, 0)
	pick(t, l, 0, 0, 0)
	pick(t, l, -1, 0, most-1)
	pick(t, l, 0, -1, most-1)
	sum(t, l, 0)
}

// P11.1: all short lists of small numbers, by the chapter's words: from the first on the first that leaves not too much.
func TestPickSmall(t *testing.T) {
	told := map[int]int{}
	var all func(l []api.Seg)
	all = func(l []api.Seg) {
		for keep := -1; keep < 8; keep++ {
			for count := -1; count < 10; count++ {
				want := 0
				for tooMuch(l[want:], keep, count) {
					want++
				}
				pick(t, l, keep, count, want)
				told[want]++
				if want != least(l, keep, count) {
					t.Fatalf("least(%v, %d, %d) isn't %d", l, keep, count, want)
				}
			}
		}
		if len(l) == 4 {
			return
		}
		for n := range 3 {
			for size := range 3 {
				all(append(slices.Clone(l), api.Seg{N: n, Size: size}))
			}
		}
	}
	all(nil)
	for k := range 4 {
		if told[k] < 1000 {
			t.Errorf("told: %v", told)
		}
	}
}

// limits: of a list the keeps and the counts that are just what is kept from some places on, one less, one more; and the ends.
func limits(l []api.Seg) ([]int, []int) {
	keeps, counts := []int{math.MinInt, -1, 0, 1, math.MaxInt}, []int{math.MinInt, -1, 0, 1, math.MaxInt}
	for _, k := range places(len(l)) {
		bytes, records := kept(l[k:])
		keeps, counts = append(keeps, near(bytes)...), append(counts, near(records)...)
	}
	slices.Sort(keeps)
	slices.Sort(counts)
	return slices.Compact(keeps), slices.Compact(counts)
}

// P11.1, P11.2: just what is kept from each place on, one less, one more, in all pairs; the ones told leave not too much, one fewer would, and with more that may be kept no more are taken.
func TestPick(t *testing.T) {
	for _, l := range lists() {
		keeps, counts := limits(l)
		for i, keep := range keeps {
			for j, count := range counts {
				k := Pick(l, keep, count)
				if k != least(l, keep, count) {
					t.Errorf("Pick(%d segments %v, %d, %d) = %d, want %d", len(l), short(l), keep, count, k, least(l, keep, count))
				}
				if k < 0 || k > max(len(l)-1, 0) {
					t.Fatalf("of %d segments %d go", len(l), k)
				}
				if i > 0 && k > Pick(l, keeps[i-1], count) || j > 0 && k > Pick(l, keep, counts[j-1]) {
					t.Errorf("of %d segments %v more go where more may be kept: %d, %d", len(l), short(l), keep, count)
				}
			}
		}
	}
}

// P11.1: the ones told leave not too much, and one fewer would leave too much, each told anew by the chapter's words.
func TestFewest(t *testing.T) {
	for _, l := range lists() {
		for _, from := range places(len(l)) {
			bytes, records := kept(l[from:])
			for _, keep := range near(bytes) {
				for _, count := range near(records) {
					k := Pick(l, keep, count)
					if tooMuch(l[k:], keep, count) {
						t.Errorf("behind %d of %d segments %v too much is kept: %d, %d", k, len(l), short(l), keep, count)
					}
					if k > 0 && !tooMuch(l[k-1:], keep, count) {
						t.Errorf("%d of %d segments %v are more than must go: %d, %d", k, len(l), short(l), keep, count)
					}
					// Of what is left no more go.
					pick(t, l[k:], keep, count, 0)
				}
			}
		}
	}
}

// P11.1: any segments, any keep, any count.
func TestPickAny(t *testing.T) {
	r := rand.New(rand.NewSource(111))
	for range 20000 {
		records, size := 1<<r.Intn(12), 1<<r.Intn(12)
		l := random(r, r.Intn(50), records, size)
		keep, count := r.Intn(20*size), r.Intn(20*records)
		pick(t, l, keep, count, least(l, keep, count))
		pick(t, l, keep, math.MaxInt, least(l, keep, math.MaxInt))
		pick(t, l, math.MaxInt, count, least(l, math.MaxInt, count))
	}
}

// P11.2: the last one is never taken, however little may be kept; all the others may be.
func TestLastStays(t *testing.T) {
	for _, l := range lists() {
		for _, keep := range []int{math.MinInt, -1, 0, math.MaxInt} {
			for _, count := range []int{math.MinInt, -1, 0, math.MaxInt} {
				if k := Pick(l, keep, count); k < 0 || k > 0 && k >= len(l) {
					t.Errorf("Pick(%d segments %v, %d, %d) = %d", len(l), short(l), keep, count, k)
				}
			}
			pick(t, l, -1, keep, max(len(l)-1, 0))
			pick(t, l, keep, -1, max(len(l)-1, 0))
		}
	}
}

// P11.2: with more that may be kept no more are taken, step by step from less than nothing up to all.
func TestMoreKept(t *testing.T) {
	r := rand.New(rand.NewSource(112))
	for range 300 {
		l := random(r, r.Intn(20), 9, 20)
		bytes, records := kept(l)
		last := Pick(l, -1, math.MaxInt)
		for keep := range bytes + 3 {
			k := Pick(l, keep, math.MaxInt)
			if k > last {
				t.Errorf("Pick(%v, %d, all) = %d, but %d of one less", l, keep, k, last)
			}
			last = k
		}
		if last != 0 {
			t.Errorf("Pick(%v, all, all) = %d", l, last)
		}
		last = Pick(l, math.MaxInt, -1)
		for count := range records + 3 {
			k := Pick(l, math.MaxInt, count)
			if k > last {
				t.Errorf("Pick(%v, all, %d) = %d, but %d of one less", l, count, k, last)
			}
			last = k
		}
		if last != 0 {
			t.Errorf("Pick(%v, all, all) = %d", l, last)
		}
	}
}

// P11.2: a segment more at the end doesn't make fewer go; one more ahead goes first.
func TestLonger(t *testing.T) {
	r := rand.New(rand.NewSource(113))
	for range 3000 {
		l := random(r, 1+r.Intn(20), 9, 20)
		keep, count := r.Intn(200), r.Intn(100)
		k := Pick(l, keep, count)
		if more := Pick(append(slices.Clone(l), random(r, 1, 9, 20)...), keep, count); more < k {
			t.Errorf("Pick(%v, %d, %d) = %d, and of one more behind them %d", l, keep, count, k, more)
		}
		if k > 0 {
			pick(t, append(random(r, 1, 9, 20), l...), keep, count, k+1)
		}
	}
}

// P11.1: only N and Size count: not the Base.
func TestBaseDoesNotCount(t *testing.T) {
	r := rand.New(rand.NewSource(114))
	for range 500 {
		l := random(r, r.Intn(30), 9, 20)
		other := slices.Clone(l)
		for i := range other {
			other[i].Base = []int{0, 1, great, -1, math.MinInt, math.MaxInt, r.Intn(1 << 30)}[r.Intn(7)]
		}
		keep, count := r.Intn(300), r.Intn(150)
		pick(t, other, keep, count, Pick(l, keep, count))
		sum(t, other, Bytes(l))
	}
}

// P11.1: the bytes of all together: of the last one, too, and whatever records there are.
func TestBytes(t *testing.T) {
	sum(t, nil, 0)
	sum(t, []api.Seg{}, 0)
	for _, n := range []int{0, 1, 2, 9, 65536, great - 1, great} {
		sum(t, alike(1, 3, n), n)
		sum(t, alike(1, n, 3), 3)
		sum(t, alike(2, 3, n), 2*n)
		sum(t, log([]int{1, 2}, []int{n, 0}), n)
		sum(t, log([]int{1, 2}, []int{0, n}), n)
		sum(t, log([]int{great, great, great}, []int{1, n, 2}), n+3)
		sum(t, alike(most, n, n), most*n)
	}
	for _, l := range lists() {
		size := 0
		for _, s := range l {
			size += s.Size
		}
		sum(t, l, size)
		for k := range min(len(l), 10) {
			if Bytes(l[:k])+Bytes(l[k:]) != size {
				t.Errorf("%d segments %v have other bytes in two parts", len(l), short(l))
			}
		}
	}
}

// Of wrong inputs nothing is promised, but they end: numbers below 0, or above 2^40, more than 4096 segments.
func TestNotAsked(t *testing.T) {
	numbers := []int{math.MinInt, math.MinInt + 1, -great, -1, 0, 1, great + 1, math.MaxInt - 1, math.MaxInt}
	for _, n := range numbers {
		for _, size := range numbers {
			for _, l := range [][]api.Seg{alike(1, n, size), alike(2, n, size), alike(5, n, size), log([]int{n, 1, n}, []int{1, size, size}), alike(most+1, n, size)} {
				Bytes(l)
				for _, keep := range []int{math.MinInt, -1, 0, 1, math.MaxInt} {
					if k := Pick(l, keep, -keep); k < 0 || k >= len(l) {
						t.Errorf("Pick(%d segments of %d and %d, %d, %d) = %d", len(l), n, size, keep, -keep, k)
					}
				}
			}
		}
	}
	// Of the last one the bytes don't count, be they what they may.
	for _, size := range numbers {
		pick(t, log([]int{1, 1, 1}, []int{10, 20, size}), 30, 3, 0)
		pick(t, log([]int{1, 1, 1}, []int{10, 20, size}), 29, 3, 1)
	}
	l := alike(3*most, 1, 1)
	pick(t, l, 10, math.MaxInt, 3*most-11)
	sum(t, l, 3*most)
}

// P11.1: what is handed in stays as it was, its spare room too.
func TestNothingChanged(t *testing.T) {
	for _, own := range lists() {
		room := slices.Clone(own)
		for i := range 5 {
			room = append(room, api.Seg{Base: -70 - i, N: 7000 + i, Size: -i})
		}
		was := slices.Clone(room)
		l := room[:len(own)]
		bytes, records := kept(l)
		for _, keep := range append(near(bytes), math.MinInt, 0, math.MaxInt) {
			for _, count := range append(near(records), math.MinInt, 0, math.MaxInt) {
				Pick(l, keep, count)
				// What stands in the spare room doesn't count.
				pick(t, l, keep, count, Pick(own, keep, count))
			}
		}
		if Bytes(l) != Bytes(own) {
			t.Errorf("Bytes of %d segments %v hang on their spare room", len(own), short(own))
		}
		if !slices.Equal(room, was) {
			t.Errorf("%d segments %v aren't as they were", len(own), short(own))
		}
	}
}

// P11.1: the same again answers the same, whatever was asked between.
func TestNothingKept(t *testing.T) {
	for _, l := range lists() {
		bytes, records := kept(l)
		k, size := Pick(l, bytes/2, records), Bytes(l)
		Pick(alike(9, 5, 5), 0, 0)
		Bytes(alike(9, 5, 5))
		Pick(alike(9, great, great), math.MaxInt, math.MinInt)
		pick(t, l, bytes/2, records, k)
		if Bytes(l) != size {
			t.Errorf("Bytes of %d segments %v again = %d, want %d", len(l), short(l), Bytes(l), size)
		}
	}
}
