package link

import (
	"math"
	"math/rand"
	"slices"
	"strconv"
	"strings"
	"testing"

	"wagoner/api"
)

// ends: numbers of which no link has so many messages, and the ends of their type.
var ends = []int{math.MinInt, math.MinInt + 1, math.MinInt32, -1 << 32, -65, -64, -2, -1, 1000, 1 << 16, math.MaxInt32, 1 << 32, math.MaxInt - 1, math.MaxInt}

// sides: what a link may have as its From, or its To.
var sides = []int{0, 1, 7, 8, -1, math.MinInt, math.MaxInt}

// texts: of no bytes, and of any.
func texts() []string {
	all := make([]byte, 256)
	for i := range all {
		all[i] = byte(i)
	}
	return []string{"", "a", "b", "\x00", "\xff", "\x00\x00", "a\nb", "\x80\xfe", "é", string(all), strings.Repeat("\x9c", api.MaxBody+7)}
}

// lists: of no message (nil, and none), one, two, some, 63, 64, 65; of messages that are unlike, and of some that are alike.
func lists() [][]string {
	l := [][]string{nil, {}, {""}, {"a"}, {"a", "b"}, {"a", "a"}, {"", ""}, {"a", "b", "a"}, {"b", "a", "a"}, texts()}
	for _, n := range []int{3, 4, 5, 7, 8, 9, 16, 63, 64, 65, 100} {
		l = append(l, numbered(n), slices.Repeat([]string{"\xff"}, n))
	}
	return l
}

// numbered: so many messages, no two of which are alike.
func numbered(n int) []string {
	var q []string
	for i := range n {
		q = append(q, "m"+strconv.Itoa(i))
	}
	return q
}

// around: for a list of n messages, each number that is near to something, and the ends.
func around(n int) []int {
	l := slices.Clone(ends)
	for _, k := range []int{0, 1, 2, n / 2, n - 3, n - 2, n - 1, n, n + 1, n + 2, 2 * n} {
		if !slices.Contains(l, k) {
			l = append(l, k)
		}
	}
	return l
}

// sent, taken and twice: the messages that a link then has, by the chapter's words, in a list of their own.
func sent(q []string, s string, most int) ([]string, bool) {
	now := slices.Clone(q)
	if len(q) >= most {
		return now, false
	}
	return append(now, s), true
}

func taken(q []string, k int) ([]string, string, bool) {
	for i, s := range q {
		if i == k {
			return slices.Concat(q[:i], q[i+1:]), s, true
		}
	}
	return slices.Clone(q), "", false
}

func twice(q []string, k, most int) ([]string, bool) {
	for i, s := range q {
		if i == k {
			return sent(q, s, most)
		}
	}
	return slices.Clone(q), false
}

// kept is a list, with its spare room and what lies ahead of it, and what all that was.
type kept struct{ all, was []string }

// laid: a link of these messages, with so much spare room, within a longer list that is kept.
func laid(q []string, spare int) (api.Link, kept) {
	if q == nil {
		return api.Link{From: 3, To: 5}, kept{}
	}
	all := append([]string{"ahead"}, q...)
	for i := range spare {
		all = append(all, "spare "+strconv.Itoa(i))
	}
	l := api.Link{From: 3, To: 5, Q: all[1 : 1+len(q) : 1+len(q)+spare]}
	return l, kept{all, slices.Clone(all)}
}

// keep: a list that was answered, with its spare room.
func keep(q []string) kept {
	all := q[:cap(q)]
	return kept{all, slices.Clone(all)}
}

// stays fails the test unless the list is what it was.
func (k kept) stays(t *testing.T, what string) {
	t.Helper()
	if !slices.Equal(k.all, k.was) {
		t.Errorf("%s: what was handed in, or answered, is now %q, was %q", what, brief(k.all), brief(k.was))
	}
}

// brief: as much of a list as is told of a fault.
func brief(q []string) []string {
	var l []string
	for _, s := range q[:min(len(q), 12)] {
		l = append(l, s[:min(len(s), 20)])
	}
	return l
}

// is fails the test unless the link has just these messages, and its From and To stayed.
func is(t *testing.T, what string, got, was api.Link, want []string) {
	t.Helper()
	if got.From != was.From || got.To != was.To {
		t.Errorf("%s: from %d to %d, want from %d to %d", what, got.From, got.To, was.From, was.To)
	}
	if !slices.Equal(got.Q, want) {
		t.Errorf("%s: %d messages %q, want %d: %q", what, len(got.Q), brief(got.Q), len(want), brief(want))
	}
}

// send fails the test unless Send tells what the chapter says; it answers what Send does.
func send(t *testing.T, l api.Link, s string, most int) api.Link {
	t.Helper()
	what := "Send of " + strconv.Itoa(len(l.Q)) + ", most " + strconv.Itoa(most)
	want, wantOk := sent(l.Q, s, most)
	got, ok := Send(l, s, most)
	if ok != wantOk {
		t.Errorf("%s: %v, want %v", what, ok, wantOk)
	}
	is(t, what, got, l, want)
	return got
}

// take: the same of Take.
func take(t *testing.T, l api.Link, k int) api.Link {
	t.Helper()
	what := "Take of " + strconv.Itoa(len(l.Q)) + ", " + strconv.Itoa(k)
	want, wantS, wantOk := taken(l.Q, k)
	got, s, ok := Take(l, k)
	if ok != wantOk || s != wantS {
		t.Errorf("%s: %q, %v, want %q, %v", what, brief([]string{s}), ok, brief([]string{wantS}), wantOk)
	}
	is(t, what, got, l, want)
	return got
}

// double: the same of Twice.
func double(t *testing.T, l api.Link, k, most int) api.Link {
	t.Helper()
	what := "Twice of " + strconv.Itoa(len(l.Q)) + ", " + strconv.Itoa(k) + ", most " + strconv.Itoa(most)
	want, wantOk := twice(l.Q, k, most)
	got, ok := Twice(l, k, most)
	if ok != wantOk {
		t.Errorf("%s: %v, want %v", what, ok, wantOk)
	}
	is(t, what, got, l, want)
	return got
}

// P17.1: the chapter's example.
func TestExample(t *testing.T) {
	l := api.Link{From: 1}
	l, ok := Send(l, "a", 2)
	l, okB := Send(l, "b", 2)
	if !ok || !okB || !slices.Equal(l.Q, []string{"a", "b"}) {
		t.Fatalf("Send of a, then of b: %q, %v, %v", l.Q, ok, okB)
	}
	left, s, ok := Take(l, 0)
	if s != "a" || !ok || left.From != 1 || left.To != 0 || !slices.Equal(left.Q, []string{"b"}) {
		t.Errorf("Take of 0: %v, %q, %v", left, s, ok)
	}
	left, s, ok = Take(l, 1)
	if s != "b" || !ok || !slices.Equal(left.Q, []string{"a"}) {
		t.Errorf("Take of 1: %v, %q, %v", left, s, ok)
	}
	more, ok := Twice(l, 0, 3)
	if !ok || more.From != 1 || more.To != 0 || !slices.Equal(more.Q, []string{"a", "b", "a"}) {
		t.Errorf("Twice of 0: %v, %v", more, ok)
	}
	if more, ok = Twice(l, 0, 2); ok || !slices.Equal(more.Q, []string{"a", "b"}) {
		t.Errorf("Twice of 0, most 2: %v, %v", more, ok)
	}
	if !slices.Equal(l.Q, []string{"a", "b"}) {
		t.Errorf("the link is now %q", l.Q)
	}
}

// P17.1: Send to links of any numbers of messages, and most around that number, around 0, and at the ends.
func TestSend(t *testing.T) {
	for _, q := range lists() {
		for _, spare := range []int{0, 1, 9} {
			for _, most := range around(len(q)) {
				l, k := laid(q, spare)
				send(t, l, "new", most)
				k.stays(t, "Send")
			}
		}
	}
}

// P17.1: Take from links of any numbers of messages, of each place, and of those that there aren't.
func TestTake(t *testing.T) {
	for _, q := range lists() {
		for _, spare := range []int{0, 1, 9} {
			l, k := laid(q, spare)
			for i := range q {
				take(t, l, i)
				k.stays(t, "Take")
			}
			for _, i := range around(len(q)) {
				take(t, l, i)
				k.stays(t, "Take")
			}
		}
	}
}

// P17.1: Twice in links of any numbers of messages, of each place, and of those that there aren't, and most as for Send.
func TestTwice(t *testing.T) {
	for _, q := range lists() {
		for _, spare := range []int{0, 1, 9} {
			l, k := laid(q, spare)
			for i := range q {
				double(t, l, i, len(q))
				double(t, l, i, len(q)+1)
				k.stays(t, "Twice")
			}
			for _, i := range around(len(q)) {
				for _, most := range around(len(q)) {
					double(t, l, i, most)
					k.stays(t, "Twice")
				}
			}
		}
	}
}

// P17.1: most, told in numbers: one less than most is no reason, most is one, more than most too; and most of 0, of less, and the greatest.
func TestMost(t *testing.T) {
	for _, c := range []struct {
		n, most int
		ok      bool
	}{
		{0, 1, true}, {0, 0, false}, {0, -1, false}, {0, math.MinInt, false}, {0, math.MaxInt, true},
		{1, 2, true}, {1, 1, false}, {1, 0, false}, {1, -1, false}, {1, math.MinInt, false}, {1, math.MaxInt, true},
		{63, 64, true}, {64, 64, false}, {65, 64, false}, {64, 65, true}, {100, 64, false}, {100, math.MaxInt, true},
	} {
		l := api.Link{Q: numbered(c.n)}
		more := c.n
		if c.ok {
			more++
		}
		if got, ok := Send(l, "new", c.most); ok != c.ok || len(got.Q) != more {
			t.Errorf("Send of %d, most %d: %d messages, %v, want %d, %v", c.n, c.most, len(got.Q), ok, more, c.ok)
		}
		// Of no messages there is none to come once more.
		if got, ok := Twice(l, 0, c.most); ok != (c.ok && c.n > 0) || len(got.Q) > more || c.n > 0 && len(got.Q) != more {
			t.Errorf("Twice of %d, most %d: %d messages, %v, want %v", c.n, c.most, len(got.Q), ok, c.ok && c.n > 0)
		}
	}
}

// P17.1: most doesn't bind Take: a link with more than it ever might have is emptied too, message by message, from any side.
func TestTakeAll(t *testing.T) {
	for _, from := range []func(n int) int{
		func(n int) int { return 0 }, func(n int) int { return n - 1 }, func(n int) int { return n / 2 },
	} {
		l := api.Link{From: 2, To: 4, Q: numbered(200)}
		for n := 200; n > 0; n-- {
			l = take(t, l, from(n))
			if len(l.Q) != n-1 {
				t.Fatalf("of %d there are %d left", n, len(l.Q))
			}
		}
		take(t, l, 0)
		l = send(t, l, "again", 1)
		is(t, "Send behind all takes", l, api.Link{From: 2, To: 4}, []string{"again"})
	}
}

// P17.1: texts of no bytes, and of any, there and back: alone, and between others.
func TestTexts(t *testing.T) {
	for _, s := range texts() {
		for _, q := range [][]string{nil, {}, {"x"}, {"", "\xff"}, {s, s}} {
			l := send(t, api.Link{Q: q}, s, math.MaxInt)
			l = double(t, l, len(q), math.MaxInt)
			l = send(t, l, "behind", math.MaxInt)
			for range 2 {
				var got string
				var ok bool
				if l, got, ok = Take(l, len(q)); got != s || !ok {
					t.Errorf("Take: %d bytes, %v, want %d, true", len(got), ok, len(s))
				}
			}
			is(t, "behind both takes", l, api.Link{}, append(slices.Clone(q), "behind"))
		}
	}
}

// P17.1: a message of no bytes that is taken is told from one that isn't there.
func TestEmptyText(t *testing.T) {
	l := api.Link{Q: []string{""}}
	if got, s, ok := Take(l, 0); s != "" || !ok || len(got.Q) != 0 {
		t.Errorf("Take of 0: %v, %q, %v", got, s, ok)
	}
	if got, s, ok := Take(l, 1); s != "" || ok || len(got.Q) != 1 {
		t.Errorf("Take of 1: %v, %q, %v", got, s, ok)
	}
}

// P17.1: From and To stay, whatever they are, done or not.
func TestSides(t *testing.T) {
	for _, from := range sides {
		for _, to := range sides {
			for _, q := range [][]string{nil, {"a"}, {"a", "b"}} {
				l := api.Link{From: from, To: to, Q: q}
				for k := -1; k <= 2; k++ {
					send(t, l, "new", k)
					take(t, l, k)
					double(t, l, k, 2)
					double(t, l, k, 3)
				}
			}
		}
	}
}

// P17.1: what isn't done leaves the link as it was, and is done alike the next time.
func TestAsItWas(t *testing.T) {
	for _, q := range lists() {
		l, k := laid(q, 3)
		n := len(q)
		for range 3 {
			l = send(t, l, "new", n)
			l = send(t, l, "new", n-1)
			for _, i := range []int{n, -1, math.MaxInt, math.MinInt} {
				l = take(t, l, i)
				l = double(t, l, i, math.MaxInt)
			}
			l = double(t, l, 0, n)
		}
		is(t, "as it was", l, api.Link{From: 3, To: 5}, q)
		k.stays(t, "as it was")
	}
}

// P17.1: answers to the same call are the same, and the one isn't changed by the other, nor by calls on any.
func TestBranches(t *testing.T) {
	for _, q := range lists() {
		base, k := laid(q, 5)
		a, _ := Send(base, "a", math.MaxInt)
		b, _ := Send(base, "b", math.MaxInt)
		left, _, _ := Take(a, len(q))
		c, _ := Send(left, "c", math.MaxInt)
		d, _ := Twice(left, 0, math.MaxInt)
		rest, _, _ := Take(a, 0)
		e, _ := Send(rest, "e", math.MaxInt)
		is(t, "a", a, base, slices.Concat(q, []string{"a"}))
		is(t, "b", b, base, slices.Concat(q, []string{"b"}))
		is(t, "left", left, base, q)
		is(t, "c", c, base, slices.Concat(q, []string{"c"}))
		is(t, "d", d, base, slices.Concat(q, q[:min(len(q), 1)]))
		is(t, "rest", rest, base, slices.Concat(q, []string{"a"})[1:])
		is(t, "e", e, base, slices.Concat(q, []string{"a", "e"})[1:])
		k.stays(t, "branches")
	}
}

// someCall: some call on that link.
func someCall(t *testing.T, r *rand.Rand, l api.Link, s string, most int) api.Link {
	t.Helper()
	k := r.Intn(len(l.Q)+3) - 1
	switch r.Intn(6) {
	case 0, 1, 2:
		return send(t, l, s, most)
	case 3:
		return double(t, l, k, most)
	}
	return take(t, l, k)
}

// P17.1, P17.2: calls in any order, many, each on any link that was ever answered; at the end all of these are as they were answered, with their spare room.
func TestAnyOrder(t *testing.T) {
	for seed := range 40 {
		r := rand.New(rand.NewSource(int64(seed)))
		most := []int{1, 2, 3, 8, 64}[seed%5]
		start, k := laid(lists()[seed%10], seed%4)
		links, answers := []api.Link{start}, []kept{k}
		for i := range 600 {
			from := len(links) - 1
			if r.Intn(4) == 0 {
				from = r.Intn(len(links))
			}
			l := someCall(t, r, links[from], "s"+strconv.Itoa(i), most)
			links, answers = append(links, l), append(answers, keep(l.Q))
		}
		for _, k := range answers {
			k.stays(t, "seed "+strconv.Itoa(seed))
		}
	}
}

// P17.2: along calls in any order no message comes from nowhere, none goes but by Take, those that stay keep their order, and there are never more than most.
func TestFollows(t *testing.T) {
	for seed := range 60 {
		r := rand.New(rand.NewSource(int64(1000 + seed)))
		most := []int{0, 1, 2, 5, 64, -3}[seed%6]
		var l api.Link
		count := map[string]int{}
		for i := range 2000 {
			was, k, ok := l.Q, r.Intn(len(l.Q)+2)-1, false
			s := strconv.Itoa(i % 50)
			switch r.Intn(3) {
			case 0:
				l, ok = Send(l, s, most)
				behind(t, was, l.Q, ok, s, count)
			case 1:
				if l, ok = Twice(l, k, most); ok {
					s = was[k]
				}
				behind(t, was, l.Q, ok, s, count)
			case 2:
				l, s, ok = Take(l, k)
				without(t, was, l.Q, ok, s, count)
			}
			if len(l.Q) > max(most, 0) {
				t.Fatalf("%d messages, most %d", len(l.Q), most)
			}
			counted(t, l.Q, count)
		}
	}
}

// behind fails the test unless now is what was, and, if it was done, s behind it, which is counted then.
func behind(t *testing.T, was, now []string, ok bool, s string, count map[string]int) {
	t.Helper()
	want := slices.Clone(was)
	if ok {
		want = append(want, s)
		count[s]++
	}
	if !slices.Equal(now, want) {
		t.Fatalf("%q came of %q, %v, %q", now, was, ok, s)
	}
}

// without fails the test unless now is what was, and, if it was done, without one s, which isn't counted any more then.
func without(t *testing.T, was, now []string, ok bool, s string, count map[string]int) {
	t.Helper()
	if !ok {
		if !slices.Equal(now, was) || s != "" {
			t.Fatalf("%q, with %q, came of %q", now, s, was)
		}
		return
	}
	count[s]--
	for i := range was {
		if was[i] == s && slices.Equal(now, slices.Concat(was[:i], was[i+1:])) {
			return
		}
	}
	t.Fatalf("%q, without %q, came of %q", now, s, was)
}

// counted fails the test unless there are just as many of each message as came and didn't go.
func counted(t *testing.T, q []string, count map[string]int) {
	t.Helper()
	now := map[string]int{}
	for _, s := range q {
		now[s]++
	}
	for s, n := range count {
		if now[s] != n {
			t.Fatalf("of %q there are %d, want %d", s, now[s], n)
		}
		delete(now, s)
	}
	if len(now) > 0 {
		t.Fatalf("from nowhere: %v", now)
	}
}

// P17.2: each short history of calls, whole: from none of the messages on, all that may be done three times, for each small most.
func TestShortHistories(t *testing.T) {
	for most := -1; most <= 4; most++ {
		for _, q := range [][]string{nil, {"x"}, {"x", "y"}, {"x", "y", "x", "z", ""}} {
			l, k := laid(q, 2)
			all(t, l, most, 3)
			k.stays(t, "short histories")
		}
	}
}

// all: each history of so many calls more; behind each of them the link is as it was.
func all(t *testing.T, l api.Link, most, calls int) {
	t.Helper()
	if calls == 0 {
		return
	}
	k := keep(l.Q)
	all(t, send(t, l, "s"+strconv.Itoa(calls), most), most, calls-1)
	for i := -1; i <= len(l.Q); i++ {
		all(t, take(t, l, i), most, calls-1)
		all(t, double(t, l, i, most), most, calls-1)
	}
	k.stays(t, "behind all")
}
