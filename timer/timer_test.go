package timer

import (
	"cmp"
	"maps"
	"math"
	"math/rand"
	"slices"
	"strconv"
	"testing"

	"wagoner/api"
)

// far is the most that after may be.
const far = 1 << 40

// ids: of either sign, near to each other, and at the ends of their type.
var ids = []int{0, 1, 2, 3, -1, -2, 7, 8, 64, math.MinInt, math.MinInt + 1, math.MinInt32, 1 << 32, math.MaxInt - 1, math.MaxInt}

// afters: of each kind that the chapter's words part, and the far end.
var afters = []int{1, 0, -1, -2, math.MinInt32, math.MinInt + 1, math.MinInt, 2, 3, 5, 17, far - 1, far}

// watch is what a wheel is by the chapter's words: a time, and for each Id that has an alarm when it rings.
type watch struct {
	now int
	at  map[int]int
}

// none: a watch at the start.
func none() watch { return watch{0, map[int]int{}} }

// arm, cancel and tick: the watch that is then; the one ahead of it stays.
func (c watch) arm(id, after int) watch {
	if after < 1 {
		after = 1
	}
	at := maps.Clone(c.at)
	at[id] = c.now + after
	return watch{c.now, at}
}

func (c watch) cancel(id int) watch {
	at := maps.Clone(c.at)
	delete(at, id)
	return watch{c.now, at}
}

func (c watch) tick() (watch, []int) {
	at := maps.Clone(c.at)
	var rung []int
	for _, a := range c.alarms() {
		if a.At <= c.now+1 {
			rung = append(rung, a.Id)
			delete(at, a.Id)
		}
	}
	return watch{c.now + 1, at}, rung
}

// alarms: all of them, rising by At, then by Id.
func (c watch) alarms() []api.Alarm {
	var l []api.Alarm
	for id, at := range c.at {
		l = append(l, api.Alarm{Id: id, At: at})
	}
	slices.SortFunc(l, func(a, b api.Alarm) int {
		return cmp.Or(cmp.Compare(a.At, b.At), cmp.Compare(a.Id, b.Id))
	})
	return l
}

// kept is a list, with its spare room and what lies ahead of it, and what all that was.
type kept struct{ all, was []api.Alarm }

// keep: a list that was answered, with its spare room.
func keep(l []api.Alarm) kept {
	all := l[:cap(l)]
	return kept{all, slices.Clone(all)}
}

// stays fails the test unless the list is what it was.
func (k kept) stays(t *testing.T, what string) {
	t.Helper()
	if !slices.Equal(k.all, k.was) {
		t.Errorf("%s: what was handed in, or answered, is now %v, was %v", what, brief(k.all), brief(k.was))
	}
}

// brief: as much of a list as is told of a fault.
func brief(l []api.Alarm) []api.Alarm { return l[:min(len(l), 12)] }

// laid: the wheel in a list with so much spare room, within a longer list that is kept.
func laid(w api.Wheel, spare int) (api.Wheel, kept) {
	all := append([]api.Alarm{{Id: 77, At: 1}}, w.L...)
	for i := range spare {
		all = append(all, api.Alarm{Id: 1000 + i, At: w.Now + 1})
	}
	w.L = all[1 : 1+len(w.L) : 1+len(w.L)+spare]
	return w, kept{all, slices.Clone(all)}
}

// is fails the test unless the wheel is what the watch tells.
func is(t *testing.T, what string, w api.Wheel, c watch) {
	t.Helper()
	if w.Now != c.now {
		t.Errorf("%s: Now %d, want %d", what, w.Now, c.now)
	}
	if want := c.alarms(); !slices.Equal(w.L, want) {
		t.Errorf("%s: %d alarms %v, want %d: %v", what, len(w.L), brief(w.L), len(want), brief(want))
	}
}

// both is a wheel, and the watch that tells what it must be.
type both struct {
	w api.Wheel
	c watch
}

// arm, cancel and tick fail the test unless the wheel goes as the watch does; they answer what is then.
func (b both) arm(t *testing.T, id, after int) both {
	t.Helper()
	what := "Arm " + strconv.Itoa(id) + ", after " + strconv.Itoa(after)
	was := keep(b.w.L)
	b = both{Arm(b.w, id, after), b.c.arm(id, after)}
	is(t, what, b.w, b.c)
	was.stays(t, what)
	return b
}

func (b both) cancel(t *testing.T, id int) both {
	t.Helper()
	what := "Cancel " + strconv.Itoa(id)
	was := keep(b.w.L)
	b = both{Cancel(b.w, id), b.c.cancel(id)}
	is(t, what, b.w, b.c)
	was.stays(t, what)
	return b
}

func (b both) tick(t *testing.T) (both, []int) {
	t.Helper()
	was := keep(b.w.L)
	w, got := Tick(b.w)
	c, want := b.c.tick()
	is(t, "Tick", w, c)
	if !slices.Equal(got, want) {
		t.Errorf("Tick to %d tells %v, want %v", c.now, got, want)
	}
	was.stays(t, "Tick")
	return both{w, c}, got
}

// asks fails the test unless Armed tells of these Ids what the watch does, and changes nothing.
func (b both) asks(t *testing.T, of []int) {
	t.Helper()
	was := keep(b.w.L)
	for _, id := range of {
		_, want := b.c.at[id]
		if got := Armed(b.w, id); got != want {
			t.Errorf("Armed %d of %v at %d: %v, want %v", id, brief(b.w.L), b.w.Now, got, want)
		}
	}
	was.stays(t, "Armed")
}

// start: the first wheel, its list nil or empty.
func start(empty bool) both {
	if empty {
		return both{api.Wheel{L: []api.Alarm{}}, none()}
	}
	return both{api.Wheel{}, none()}
}

// some: wheels of no alarm, one, two, and many, some of them later than the start.
func some(t *testing.T) []both {
	t.Helper()
	all := []both{start(false), start(true)}
	one := start(false).arm(t, 1, 1)
	two := one.arm(t, -1, 1)
	three := two.arm(t, 2, 2)
	many := start(false)
	for i, id := range ids {
		many = many.arm(t, id, afters[i%len(afters)])
	}
	late := start(true)
	for range 9 {
		late, _ = late.tick(t)
	}
	all = append(all, one, two, three, many, late)
	for i, id := range ids {
		late = late.arm(t, id, 1+i%3)
	}
	row := start(false)
	for i := range 100 {
		row = row.arm(t, (i*37)%100, 1+(i*53)%7)
	}
	later, _ := row.tick(t)
	return append(all, late, row, later)
}

// The chapter's example: armed at 2, the second tick tells it.
func TestExample(t *testing.T) {
	w := Arm(api.Wheel{}, 5, 2)
	w, got := Tick(w)
	if len(got) != 0 || !Armed(w, 5) {
		t.Errorf("the first tick tells %v, armed %v; want none, true", got, Armed(w, 5))
	}
	w, got = Tick(w)
	if !slices.Equal(got, []int{5}) || Armed(w, 5) || len(w.L) != 0 || w.Now != 2 {
		t.Errorf("the second tick tells %v, behind it %v; want 5, and no alarm at 2", got, w)
	}
}

// P18.1: an alarm stands at Now and after together, after being 1 at least.
func TestArm(t *testing.T) {
	for _, after := range afters {
		for _, id := range ids {
			for _, now := range []int{0, 1, 2, 1 << 20} {
				w := Arm(api.Wheel{Now: now}, id, after)
				want := now + 1
				if after > 1 {
					want = now + after
				}
				if w.Now != now || !slices.Equal(w.L, []api.Alarm{{Id: id, At: want}}) {
					t.Errorf("Arm %d after %d at %d: %v, want %d at %d", id, after, now, w, id, want)
				}
			}
		}
	}
}

// P18.1: at each kind of wheel, each Id is armed at each distance, cancelled, and asked for.
func TestEachCall(t *testing.T) {
	for _, b := range some(t) {
		b.asks(t, ids)
		b.tick(t)
		for _, id := range ids {
			b.cancel(t, id).asks(t, ids)
			for _, after := range afters {
				b.arm(t, id, after).asks(t, ids)
			}
		}
		is(t, "behind all", b.w, b.c)
	}
}

// P18.1: an Id's alarm is armed anew sooner, at the same At, and later, alone and among others of each place: it has just the new one.
func TestAnew(t *testing.T) {
	for _, others := range [][]int{nil, {1}, {5}, {9}, {1, 9}, {3, 4, 5, 6, 7}, {5, 5, 5}} {
		for _, id := range []int{-1, 10, math.MinInt, math.MaxInt} {
			for old := 1; old <= 10; old++ {
				b := start(false)
				for i, after := range others {
					b = b.arm(t, i, after)
				}
				b = b.arm(t, id, old)
				for after := -1; after <= 11; after++ {
					b.arm(t, id, after)
				}
				next, _ := b.tick(t)
				for after := -1; after <= 11; after++ {
					next.arm(t, id, after)
				}
			}
		}
	}
}

// P18.1: alarms of one At stand by their Ids, whatever the order in which they were armed; so do alarms of any.
func TestOrder(t *testing.T) {
	few := []int{math.MinInt, -1, 0, 1, math.MaxInt}
	each(few, func(row []int) {
		same, unlike := start(false), start(false)
		for i, id := range row {
			same = same.arm(t, id, 3)
			unlike = unlike.arm(t, id, 1+i/2)
		}
		want := []api.Alarm{{Id: math.MinInt, At: 3}, {Id: -1, At: 3}, {Id: 0, At: 3}, {Id: 1, At: 3}, {Id: math.MaxInt, At: 3}}
		if !slices.Equal(same.w.L, want) {
			t.Errorf("armed in the order %v: %v, want %v", row, same.w.L, want)
		}
	})
}

// each hands over each order of the list.
func each(l []int, to func([]int)) {
	var fill func(row []int)
	fill = func(row []int) {
		if len(row) == len(l) {
			to(row)
			return
		}
		for _, v := range l {
			if !slices.Contains(row, v) {
				fill(append(slices.Clone(row), v))
			}
		}
	}
	fill(nil)
}

// P18.1: Cancel and Armed of an Id that isn't there, on wheels without alarms and with some.
func TestNotThere(t *testing.T) {
	for _, b := range some(t) {
		for _, id := range []int{-3, 12345, math.MinInt + 2, math.MaxInt - 2} {
			if Armed(b.w, id) {
				t.Errorf("Armed %d of %v: true", id, brief(b.w.L))
			}
			b.cancel(t, id)
		}
	}
	for _, w := range []api.Wheel{{}, {L: []api.Alarm{}}, {Now: 5}} {
		for _, id := range ids {
			if got := Cancel(w, id); got.Now != w.Now || len(got.L) != 0 || Armed(w, id) {
				t.Errorf("of %v: Cancel %d is %v, Armed %v", w, id, got, Armed(w, id))
			}
		}
	}
}

// P18.1: a tick of a wheel without alarms tells none; of one with some, none of them, some, or all.
func TestTick(t *testing.T) {
	w := api.Wheel{}
	for i := range 1000 {
		var got []int
		w, got = Tick(w)
		if w.Now != i+1 || len(got) != 0 || len(w.L) != 0 {
			t.Fatalf("tick %d without alarms: %v tells %v", i+1, w, got)
		}
	}
	for _, k := range []struct {
		at   []int
		want []int
		left int
	}{
		{[]int{2}, nil, 1},
		{[]int{2, far}, nil, 2},
		{[]int{1}, []int{0}, 0},
		{[]int{1, 1, 1}, []int{0, 1, 2}, 0},
		{[]int{0, -5, math.MinInt}, []int{0, 1, 2}, 0},
		{[]int{2, 1, 2}, []int{1}, 2},
		{[]int{1, 3, 1, 2}, []int{0, 2}, 2},
		{[]int{far, 1}, []int{1}, 1},
	} {
		b := start(false)
		for id, after := range k.at {
			b = b.arm(t, id, after)
		}
		b, got := b.tick(t)
		if !slices.Equal(got, k.want) || len(b.w.L) != k.left {
			t.Errorf("a tick of alarms at %v tells %v, leaves %v; want %v, and %d left", k.at, got, b.w.L, k.want, k.left)
		}
	}
}

// P18.2: an alarm rings just once, so many ticks behind when it was armed, among others, and on none of the ticks beside that one.
func TestRingsOnce(t *testing.T) {
	for _, early := range []int{0, 1, 7} {
		for _, after := range []int{math.MinInt, -1, 0, 1, 2, 3, 8, 30, 100} {
			b := start(true)
			for i := range early {
				b, _ = b.arm(t, 500+i, 1+i*3).tick(t)
			}
			b = b.arm(t, 3, after).arm(t, 4, 2).arm(t, -4, 30)
			var rung []int
			for i := 1; i <= 140; i++ {
				var got []int
				b, got = b.tick(t)
				if slices.Contains(got, 3) {
					rung = append(rung, i)
				}
				if Armed(b.w, 3) != (len(rung) == 0) {
					t.Errorf("after %d: %d ticks later armed %v, rung at %v", after, i, Armed(b.w, 3), rung)
				}
			}
			if want := []int{max(after, 1)}; !slices.Equal(rung, want) {
				t.Errorf("after %d: rings at the ticks %v, want %v", after, rung, want)
			}
		}
	}
}

// P18.2: a cancelled alarm doesn't ring; one that is armed anew rings so many ticks behind that, and not when it would have; one that rang may be armed again.
func TestCancelledAndAnew(t *testing.T) {
	for first := 1; first <= 6; first++ {
		for wait := 0; wait < first; wait++ {
			b := start(false).arm(t, 9, first).arm(t, 8, first)
			for range wait {
				b, _ = b.tick(t)
			}
			if got := rings(t, b.cancel(t, 9), 9, 20); len(got) != 0 {
				t.Errorf("armed after %d, cancelled at %d: rings %v", first, wait, got)
			}
			for again := 1; again <= 8; again++ {
				for _, c := range []both{b.arm(t, 9, again), b.cancel(t, 9).arm(t, 9, again)} {
					if got := rings(t, c, 9, 20); !slices.Equal(got, []int{again}) {
						t.Errorf("armed after %d, at %d anew after %d: rings %v", first, wait, again, got)
					}
				}
			}
		}
		b := start(false).arm(t, 9, first)
		for range first {
			b, _ = b.tick(t)
		}
		if got := rings(t, b.arm(t, 9, first), 9, 20); !slices.Equal(got, []int{first}) {
			t.Errorf("armed after %d, and behind the ring again: rings %v", first, got)
		}
	}
}

// rings: at which of so many ticks the Id rings.
func rings(t *testing.T, b both, id, ticks int) []int {
	t.Helper()
	var l []int
	for i := 1; i <= ticks; i++ {
		var got []int
		b, got = b.tick(t)
		for _, g := range got {
			if g == id {
				l = append(l, i)
			}
		}
	}
	return l
}

// P18.2: one that is far away still stands behind many ticks, where it was put.
func TestFar(t *testing.T) {
	w := Arm(Arm(api.Wheel{}, 1, far), 2, 1<<16)
	for i := 1; i <= 1<<16+5; i++ {
		var got []int
		w, got = Tick(w)
		if want := i == 1<<16; want != slices.Equal(got, []int{2}) || !want && len(got) != 0 {
			t.Fatalf("tick %d tells %v", i, got)
		}
	}
	if !slices.Equal(w.L, []api.Alarm{{Id: 1, At: far}}) {
		t.Errorf("left %v, want the one at %d", w.L, far)
	}
}

// P18.1: no call writes into the list that it is handed, nor into its spare room, nor ahead of it.
func TestHandedIn(t *testing.T) {
	for _, b := range some(t) {
		for _, spare := range []int{0, 1, 2, 70} {
			w, k := laid(b.w, spare)
			for _, id := range append(slices.Clone(ids), 5, 50, 99) {
				for _, after := range afters {
					is(t, "Arm", Arm(w, id, after), b.c.arm(id, after))
				}
				is(t, "Cancel", Cancel(w, id), b.c.cancel(id))
				Armed(w, id)
				k.stays(t, "with spare room, of "+strconv.Itoa(id))
			}
			c, rung := b.c.tick()
			next, got := Tick(w)
			is(t, "Tick", next, c)
			if !slices.Equal(got, rung) {
				t.Errorf("Tick tells %v, want %v", got, rung)
			}
			k.stays(t, "Tick with spare room")
			is(t, "a call behind Tick", Arm(next, 7, 1), c.arm(7, 1))
			is(t, "a call behind Tick", Cancel(next, 1), c.cancel(1))
			k.stays(t, "behind Tick with spare room")
		}
	}
}

// moves: how many ways try knows.
const moves = 11

// try does the n-th of some moves.
func try(t *testing.T, b both, n int) both {
	t.Helper()
	switch n {
	case 0:
		b, _ = b.tick(t)
	case 1, 2:
		b = b.cancel(t, 2*n-3)
	default:
		b = b.arm(t, []int{-1, 1}[n%2], (n-3)/2)
	}
	return b
}

// P18.1, P18.2: all short histories, as branches of one tree: no branch writes into another, or into what was ahead of it.
func TestShortHistories(t *testing.T) {
	var grow func(b both, depth int)
	grow = func(b both, depth int) {
		b.asks(t, []int{-1, 0, 1})
		if depth == 0 || t.Failed() {
			return
		}
		for n := range moves {
			grow(try(t, b, n), depth-1)
		}
		is(t, "behind its branches", b.w, b.c)
	}
	grow(start(false), 5)
	grow(start(true).arm(t, 0, 2), 4)
}

// P18.1, P18.2: arms, cancels and ticks in any order, many of them, at Ids that are few and many.
func TestLongHistories(t *testing.T) {
	r := rand.New(rand.NewSource(18))
	for _, k := range []struct{ ids, most, steps int }{{1, 3, 2000}, {2, 2, 2000}, {5, 6, 3000}, {40, 20, 3000}, {300, 100, 2000}} {
		b := start(r.Intn(2) == 0)
		for range k.steps {
			id := r.Intn(k.ids) - k.ids/2
			switch r.Intn(10) {
			case 0, 1, 2:
				b, _ = b.tick(t)
			case 3, 4:
				b = b.cancel(t, id)
			case 5:
				b.asks(t, []int{id, -id, id + 1})
			default:
				b = b.arm(t, id, r.Intn(k.most+2)-1)
			}
		}
	}
}

// P18.1: many branches from any of the wheels that were answered ahead: each stays what it was.
func TestBranches(t *testing.T) {
	r := rand.New(rand.NewSource(81))
	all := []both{start(false), start(true)}
	for range 4000 {
		b := all[r.Intn(len(all))]
		if r.Intn(2) == 0 {
			b = all[len(all)-1]
		}
		id := r.Intn(24) - 8
		switch r.Intn(8) {
		case 0:
			b, _ = b.tick(t)
		case 1:
			b = b.cancel(t, id)
		default:
			b = b.arm(t, id, r.Intn(6))
		}
		all = append(all, b)
	}
	for _, b := range all {
		is(t, "behind all branches", b.w, b.c)
	}
}

// P18.1: what a tick told is the caller's: a later call doesn't write into it.
func TestToldStays(t *testing.T) {
	w := api.Wheel{}
	var told, was [][]int
	for i := range 200 {
		for id := range 6 {
			if (i+id)%3 != 0 {
				w = Arm(w, id, 1+(i*id)%4)
			}
		}
		var got []int
		w, got = Tick(w)
		told, was = append(told, got), append(was, slices.Clone(got))
	}
	for i := range told {
		if !slices.Equal(told[i], was[i]) {
			t.Errorf("what tick %d told is now %v, was %v", i+1, told[i], was[i])
		}
	}
}
