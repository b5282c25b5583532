package trim

import (
	"fmt"
	"math"
	"math/rand"
	"slices"
	"strings"
	"testing"

	"wagoner/api"
	"wagoner/crc"
	"wagoner/disk"
	"wagoner/manifest"
	"wagoner/record"
	"wagoner/store"
)

// plenty is a keep, or a count, of which nothing is too much; and a seg that no segment's bytes reach.
const plenty = math.MaxInt

// ends: numbers below all, around 0, above all.
var ends = []int{math.MinInt, math.MinInt + 1, -api.MaxOffset, -2, -1, 0, 1, api.MaxOffset, api.MaxOffset + 1, math.MaxInt - 1, math.MaxInt}

// rec: a record of that offset: of seven keys one is set, or goes, or nothing is.
func rec(at int) api.Rec {
	r := api.Rec{At: at, Time: at * 3 % 1000}
	switch {
	case at%11 == 10:
	case at%5 == 4:
		r.Data = string("abcdefg"[at/5%7])
	default:
		r.Data = string("abcdefg"[at*3%7]) + strings.Repeat(string(rune('0'+at%10)), 1+at*7%(api.MaxPayload-1))
	}
	return r
}

// recs: the records from one offset up to another one.
func recs(from, to int) []api.Rec {
	var l []api.Rec
	for at := from; at < to; at++ {
		l = append(l, rec(at))
	}
	return l
}

// rows: the frames of records, one behind the other.
func rows(l ...api.Rec) string {
	s, err := record.Row(l)
	if err != api.OK {
		panic("no records")
	}
	return s
}

// segName, snapName: a segment's name, a snapshot's, by the words of chapter 7.
func segName(base int) string  { return fmt.Sprintf("s%013d", base) }
func snapName(base int) string { return fmt.Sprintf("t%013d", base) }

// manBytes: a manifest's bytes.
func manBytes(m api.Man) string {
	s, err := manifest.Put(m)
	if err != api.OK {
		panic("no manifest")
	}
	return s
}

// table is a state, by its keys: their values, of no bytes where there is none.
type table [256]string

// with: the state behind the records.
func (t table) with(l ...api.Rec) table {
	for _, r := range l {
		if r.Data != "" {
			t[r.Data[0]] = r.Data[1:]
		}
	}
	return t
}

// pairs: the state's pairs.
func (t table) pairs() []api.Pair {
	var l []api.Pair
	for key, val := range t {
		if val != "" {
			l = append(l, api.Pair{Key: byte(key), Val: val})
		}
	}
	return l
}

// bytes: the state's bytes, by the words of chapter 5.
func (t table) bytes() string {
	number := func(n int) string {
		if n < 128 {
			return string([]byte{byte(n)})
		}
		return string([]byte{byte(n&127 | 128), byte(n >> 7)})
	}
	l := t.pairs()
	s := number(len(l))
	for _, p := range l {
		s += string([]byte{p.Key}) + number(len(p.Val)) + p.Val
	}
	return s
}

// sure, part: a file all of whose bytes are sure, and one of whose bytes so many are.
func sure(name, data string) api.File             { return part(name, data, len(data)) }
func part(name, data string, n int) api.File      { return api.File{Name: name, Data: data, Sure: n} }
func files(l ...api.File) api.Disk                { return api.Disk{Files: l} }
func armed(d api.Disk, left int) api.Disk         { d.Armed, d.Left = true, left; return d }
func down(d api.Disk) api.Disk                    { d.Armed, d.Left, d.Down = true, 0, true; return d }
func capped(d api.Disk, n int) api.Disk           { d.Cap = n; return d }
func withDisk(st api.Store, d api.Disk) api.Store { st.Disk = d; return st }

// log is a store, and what it has, told apart from it: the state below its first records, and the records behind that one, from the offset base on.
type log struct {
	st    api.Store
	base  int
	below table
	l     []api.Rec
}

// at: the state below that offset.
func (g log) at(off int) table { return g.below.with(g.l[:off-g.base]...) }

// show: in words, in short.
func show(st api.Store) string {
	var l []string
	for _, f := range st.Disk.Files {
		l = append(l, fmt.Sprintf("%s: %d bytes, %d sure", f.Name, len(f.Data), f.Sure))
	}
	d := st.Disk
	return fmt.Sprintf("Ver %d Segs %v Next %d Sure %d Size %d Sum %d [%s] Cap %d Armed %v Left %d Down %v",
		st.Ver, st.Segs, st.Next, st.Sure, st.Size, st.Sum, strings.Join(l, "; "), d.Cap, d.Armed, d.Left, d.Down)
}

// alike: are both the same, in all fields?
func alike(a, b api.Store) bool {
	c, d := a.Disk, b.Disk
	disks := slices.Equal(c.Files, d.Files) && c.Cap == d.Cap && c.Armed == d.Armed && c.Left == d.Left && c.Down == d.Down
	return disks && a.Ver == b.Ver && slices.Equal(a.Segs, b.Segs) && a.Next == b.Next && a.Sure == b.Sure && a.Size == b.Size && a.Sum == b.Sum
}

// same fails the test unless that was told.
func same(t *testing.T, what string, got api.Store, err api.Errno, want api.Store, wantErr api.Errno) {
	t.Helper()
	if !alike(got, want) || err != wantErr {
		t.Fatalf("%s: error %d, %s\nwant %d, %s", what, err, show(got), wantErr, show(want))
	}
}

// fine fails the test unless that is OK; and answers the store.
func fine(t *testing.T, st api.Store, err api.Errno) api.Store {
	t.Helper()
	if err != api.OK {
		t.Fatalf("error %d of %s", err, show(st))
	}
	return st
}

// empty: a new log.
func empty(t *testing.T) log {
	t.Helper()
	st, err := store.Create(api.Disk{})
	return log{st: fine(t, st, err)}
}

// high: a log whose floor is above 0, as a snapshot that is put in place of a log leaves it.
func high(base int, below table) log {
	snap := below.bytes()
	st := api.Store{Ver: 3, Segs: []api.Seg{{Base: base}}, Next: base, Sure: base, Size: len(snap), Sum: crc.Sum(snap)}
	man := api.Man{Ver: 3, Segs: []int{base}, Size: st.Size, Sum: st.Sum}
	st.Disk = files(sure("m", manBytes(man)), sure(segName(base), ""), sure(snapName(base), snap))
	return log{st: st, base: base, below: below}
}

// more: the log with so many records more, each with that seg, none of them synced but by a roll.
func (g log) more(t *testing.T, n, seg int) log {
	t.Helper()
	for range n {
		r := rec(g.st.Next)
		st, err := store.Append(g.st, seg, r)
		g.st, g.l = fine(t, st, err), append(slices.Clone(g.l), r)
	}
	return g
}

// synced: the log behind a Sync.
func (g log) synced(t *testing.T) log {
	t.Helper()
	st, err := store.Sync(g.st)
	g.st = fine(t, st, err)
	return g
}

// rolledEmpty: the log with a last segment without records, as a roll leaves it ahead of an Append that has no room.
func (g log) rolledEmpty(t *testing.T) log {
	t.Helper()
	full := g.st
	man := len(manBytes(store.Man(g.st)))
	// Room for the next manifest, beside the one that is there, and for no record behind it.
	full.Disk.Cap = disk.Used(full.Disk) + man + 8
	r := api.Rec{At: full.Next, Data: strings.Repeat("z", api.MaxPayload)}
	st, err := store.Append(full, 1, r)
	if err != api.ErrFull || len(st.Segs) != len(g.st.Segs)+1 || st.Segs[len(st.Segs)-1].N != 0 {
		t.Fatalf("no empty last segment: %d, %s", err, show(st))
	}
	st.Disk.Cap = 0
	g.st = st
	return g
}

// trimmed: the log behind a Trim.
func (g log) trimmed(t *testing.T, keep, count int) log {
	t.Helper()
	st, err := Trim(g.st, keep, count)
	g.st = fine(t, st, err)
	return g
}

// wide: a state of all keys that there are, of values as long as may be.
func wide() table {
	var s table
	for i := range s {
		s[i] = strings.Repeat(string(rune('!'+i%90)), api.MaxPayload-1)
	}
	return s
}

// logs: new; of one segment and of many, with an empty last one; with a floor of 0 and above it; behind one trim and behind two; near the last offset.
func logs(t *testing.T) []log {
	t.Helper()
	three := empty(t).more(t, 9, 120)
	long := empty(t).more(t, 40, 150)
	twice := long.trimmed(t, 300, plenty).more(t, 30, 200)
	kv := table{}.with(api.Rec{Data: "av"}, api.Rec{Data: "xw"})
	return []log{
		empty(t), empty(t).more(t, 9, plenty), empty(t).more(t, 9, plenty).synced(t),
		three, three.synced(t), three.rolledEmpty(t), three.synced(t).more(t, 1, plenty),
		long, long.synced(t), long.rolledEmpty(t), empty(t).more(t, 1, 1).rolledEmpty(t),
		long.trimmed(t, 300, plenty), long.trimmed(t, 0, plenty), long.trimmed(t, 0, plenty).more(t, 1, plenty),
		twice, twice.trimmed(t, 100, plenty), twice.trimmed(t, 0, 0).more(t, 20, 1), twice.rolledEmpty(t),
		high(1, kv), high(1000, kv).more(t, 20, 90), high(1000, kv).rolledEmpty0(t), high(77, table{}).more(t, 12, 60),
		high(5000, wide()).more(t, 30, 400), high(api.MaxOffset-9, kv).more(t, 9, 100),
		empty(t).more(t, api.MaxSegs, 1), empty(t).more(t, api.MaxSegs+20, 50).trimmed(t, 3000, plenty),
	}
}

// rolledEmpty0: a log with a full segment and an empty last one behind a snapshot.
func (g log) rolledEmpty0(t *testing.T) log {
	t.Helper()
	return g.more(t, 3, plenty).rolledEmpty(t)
}

// change is a step on the disk: its kind, the file, what more it is told.
type change struct{ kind, file, more string }

// in: the disk behind the change, by layer 6.
func (c change) in(d api.Disk) (api.Disk, api.Errno) {
	switch c.kind {
	case "create":
		return disk.Create(d, c.file)
	case "append":
		return disk.Append(d, c.file, c.more)
	case "sync":
		return disk.Sync(d, c.file)
	case "rename":
		return disk.Rename(d, c.file, c.more)
	}
	return disk.Delete(d, c.file)
}

// inTurn: the disk behind the changes, up to the first that fails; how many were done, and the error.
func inTurn(d api.Disk, l ...change) (api.Disk, int, api.Errno) {
	for i, c := range l {
		next, err := c.in(d)
		if d = next; err != api.OK {
			return d, i, err
		}
	}
	return d, len(l), api.OK
}

// toldPick: how many segments go, by the words of chapter 11.
func toldPick(l []api.Seg, keep, count int) int {
	for k := range l {
		size, n := 0, 0
		for i, s := range l[k:] {
			n += s.N
			if i < len(l)-k-1 {
				size += s.Size
			}
		}
		if k == len(l)-1 || size <= keep && n <= count {
			return k
		}
	}
	return 0
}

// toldTrim: what Trim tells, by the chapter's words.
func toldTrim(g log, keep, count int) (api.Store, api.Errno) {
	st := g.st
	k := toldPick(st.Segs, keep, count)
	if k == 0 {
		return st, api.OK
	}
	floor, base := st.Segs[0].Base, st.Segs[k].Base
	snap := g.at(base).bytes()
	man := api.Man{Ver: st.Ver + 1, Size: len(snap), Sum: crc.Sum(snap)}
	for _, s := range st.Segs[k:] {
		man.Segs = append(man.Segs, s.Base)
	}
	d, _, err := inTurn(st.Disk, change{"create", snapName(base), ""}, change{"append", snapName(base), snap}, change{"sync", snapName(base), ""})
	if err == api.OK {
		d, _, err = inTurn(d, change{"create", "n", ""}, change{"append", "n", manBytes(man)}, change{"sync", "n", ""}, change{"rename", "n", "m"})
		if err == api.ErrFull {
			d, _, err = inTurn(d, change{"delete", "n", ""})
			if err == api.OK {
				err = api.ErrFull
			}
		}
	}
	if err == api.ErrFull {
		d, _, err = inTurn(d, change{"delete", snapName(base), ""})
		if err == api.OK {
			err = api.ErrFull
		}
	}
	if st.Disk = d; err != api.OK {
		return st, err
	}
	var gone []change
	for _, s := range st.Segs[:k] {
		gone = append(gone, change{"delete", segName(s.Base), ""})
	}
	if floor > 0 {
		gone = append(gone, change{"delete", snapName(floor), ""})
	}
	st.Ver, st.Segs, st.Size, st.Sum = man.Ver, slices.Clone(st.Segs[k:]), man.Size, man.Sum
	st.Disk, _, err = inTurn(d, gone...)
	return st, err
}

// holds fails the test unless the store's states, its snapshot and its records are the log's, at each offset from the floor on.
func holds(t *testing.T, what string, st api.Store, g log) {
	t.Helper()
	floor := st.Segs[0].Base
	s := g.at(floor)
	if want := s.bytes(); floor > 0 && Snap(st) != want || floor == 0 && Snap(st) != "" {
		t.Fatalf("%s: Snap of %s = %q, want %q", what, show(st), Snap(st), want)
	}
	for off := floor; off <= st.Next; off++ {
		if got := State(st, off); !slices.Equal(got, s.pairs()) {
			t.Fatalf("%s: State of %s at %d = %v, want %v", what, show(st), off, got, s.pairs())
		}
		if off == st.Next {
			break
		}
		want := g.l[off-g.base]
		if r, err := store.Read(st, off); r != want || err != api.OK {
			t.Fatalf("%s: Read of %d = %v, %d", what, off, r, err)
		}
		s = s.with(want)
	}
	if l := store.From(st, floor, plenty, plenty); !slices.Equal(l, g.l[floor-g.base:st.Sure-g.base]) {
		t.Fatalf("%s: From of %s = %d records", what, show(st), len(l))
	}
}

// P13.1: the chapter's example: two full segments, keep 0.
func TestExample(t *testing.T) {
	g := empty(t)
	for _, data := range []string{"k1", "k2", "a3", "k"} {
		r := api.Rec{At: g.st.Next, Data: data}
		st, err := store.Append(g.st, 18, r)
		g.st, g.l = fine(t, st, err), append(g.l, r)
	}
	if len(g.st.Segs) != 2 || g.st.Segs[1].Size != 17 {
		t.Fatalf("there are other segments: %s", show(g.st))
	}
	st := g.trimmed(t, 0, plenty).st
	snap := "\x01k\x012"
	man := manBytes(api.Man{Ver: 3, Segs: []int{2}, Size: 4, Sum: crc.Sum(snap)})
	want := api.Store{Ver: 3, Segs: []api.Seg{{Base: 2, N: 2, Size: 17}}, Next: 4, Sure: 2, Size: 4, Sum: crc.Sum(snap)}
	want.Disk = files(sure("m", man), part("s0000000000002", rows(g.l[2:]...), 0), sure("t0000000000002", snap))
	same(t, "Trim", st, api.OK, want, api.OK)
	for off, want := range map[int][]api.Pair{2: {{Key: 'k', Val: "2"}}, 3: {{Key: 'a', Val: "3"}, {Key: 'k', Val: "2"}}, 4: {{Key: 'a', Val: "3"}}} {
		if got := State(st, off); !slices.Equal(got, want) {
			t.Errorf("State at %d = %v, want %v", off, got, want)
		}
	}
	if Snap(st) != snap {
		t.Errorf("Snap = %q", Snap(st))
	}
}

// P13.1: the state at the floor, between two records, at a segment's base, at Next; a record lets go what the snapshot's state has.
func TestState(t *testing.T) {
	l := []api.Rec{{Data: "b1"}, {At: 1, Data: "a2"}, {At: 2}, {At: 3, Data: "b"}, {At: 4, Data: "b5"}, {At: 5, Data: "x"}, {At: 6, Data: "a6"}}
	a2, b1, b5, a6 := api.Pair{Key: 'a', Val: "2"}, api.Pair{Key: 'b', Val: "1"}, api.Pair{Key: 'b', Val: "5"}, api.Pair{Key: 'a', Val: "6"}
	want := [][]api.Pair{nil, {b1}, {a2, b1}, {a2, b1}, {a2}, {a2, b5}, {a2, b5}, {a6, b5}}
	for _, seg := range []int{1, 16, plenty} {
		g := empty(t)
		for _, r := range l {
			st, err := store.Append(g.st, seg, r)
			g.st, g.l = fine(t, st, err), append(g.l, r)
		}
		for _, g := range []log{g, g.synced(t)} {
			for k := range g.st.Segs {
				st := g.st
				for range k {
					st = log{st: st}.trimmed(t, retainBytes(st.Segs[1:]), plenty).st
				}
				for off := st.Segs[0].Base; off <= 7; off++ {
					if got := State(st, off); !slices.Equal(got, want[off]) {
						t.Errorf("State of %s at %d = %v, want %v", show(st), off, got, want[off])
					}
				}
			}
		}
	}
}

// retainBytes: the bytes of all but the last one.
func retainBytes(l []api.Seg) int {
	n := 0
	for _, s := range l[:len(l)-1] {
		n += s.Size
	}
	return n
}

// P13.1: of all kinds of logs, at each offset from the floor on, with power and without; with a floor of 0 Snap is empty.
func TestStateSnap(t *testing.T) {
	low := 0
	for _, g := range logs(t) {
		holds(t, "a log", g.st, g)
		holds(t, "a log without power", withDisk(g.st, down(g.st.Disk)), g)
		if g.st.Segs[0].Base == 0 {
			low++
		}
	}
	if low == 0 || low == len(logs(t)) {
		t.Errorf("%d logs have a floor of 0", low)
	}
	snap := "\x02a\x01vx\x01w"
	st := high(1000, table{}.with(api.Rec{Data: "av"}, api.Rec{Data: "xw"})).st
	if Snap(st) != snap {
		t.Errorf("Snap = %q, want %q", Snap(st), snap)
	}
	if Snap(high(7, table{}).st) != "\x00" {
		t.Errorf("Snap of no pairs = %q", Snap(high(7, table{}).st))
	}
	if s := Snap(high(7, wide()).st); len(s) != 2+256*65 || s[:4] != "\x80\x02\x00\x3f" {
		t.Errorf("Snap of all pairs has %d bytes", len(s))
	}
}

// P13.1: a snapshot's place, one file beside it that isn't the store's: with a floor of 0 none is read.
func TestSnapOther(t *testing.T) {
	st := empty(t).more(t, 2, plenty).st
	st.Disk.Files = append(slices.Clone(st.Disk.Files), sure(snapName(0), "\x01a\x01b"), sure(snapName(1), "\x01a\x01c"))
	if Snap(st) != "" || len(State(st, 0)) != 0 {
		t.Errorf("Snap = %q, State = %v", Snap(st), State(st, 0))
	}
}

// three: a log of three segments: of the records 0 and 1, of 2 and 3, and of 4, that isn't sure; with the files' bytes.
func three(t *testing.T) (g log, a, b, c string) {
	t.Helper()
	g = empty(t)
	for i, data := range []string{"k1", "a2", "k3", "a", "z5"} {
		r := api.Rec{At: i, Data: data}
		st, err := store.Append(g.st, 17, r)
		g.st, g.l = fine(t, st, err), append(g.l, r)
	}
	a, b, c = rows(g.l[:2]...), rows(g.l[2:4]...), rows(g.l[4])
	if len(g.st.Segs) != 3 || g.st.Sure != 4 {
		t.Fatalf("there are other segments: %s", show(g.st))
	}
	return g, a, b, c
}

// P13.1: keeps and counts that take no segment, one, all but the last.
func TestTrimAt(t *testing.T) {
	g, _, b, c := three(t)
	one := api.Store{Ver: 4, Segs: []api.Seg{{Base: 2, N: 2, Size: 17}, {Base: 4, N: 1, Size: 9}}, Next: 5, Sure: 4, Size: 7, Sum: crc.Sum("\x02a\x012k\x011")}
	man := manBytes(api.Man{Ver: 4, Segs: []int{2, 4}, Size: one.Size, Sum: one.Sum})
	one.Disk = files(sure("m", man), sure(segName(2), b), part(segName(4), c, 0), sure(snapName(2), "\x02a\x012k\x011"))
	two := api.Store{Ver: 4, Segs: one.Segs[1:], Next: 5, Sure: 4, Size: 4, Sum: crc.Sum("\x01k\x013")}
	man = manBytes(api.Man{Ver: 4, Segs: []int{4}, Size: two.Size, Sum: two.Sum})
	two.Disk = files(sure("m", man), part(segName(4), c, 0), sure(snapName(4), "\x01k\x013"))
	for _, c := range []struct {
		keep, count int
		want        api.Store
	}{
		{plenty, plenty, g.st}, {35, 5, g.st}, {35, plenty, g.st}, {36, 5, g.st},
		{34, plenty, one}, {17, plenty, one}, {plenty, 4, one}, {plenty, 3, one}, {34, 5, one}, {35, 4, one}, {17, 3, one},
		{16, plenty, two}, {0, plenty, two}, {-1, plenty, two}, {math.MinInt, plenty, two}, {plenty, 2, two}, {plenty, 1, two}, {plenty, 0, two}, {plenty, math.MinInt, two}, {16, 5, two}, {34, 2, two}, {0, 0, two},
	} {
		got, err := Trim(g.st, c.keep, c.count)
		same(t, fmt.Sprintf("Trim of keep %d, count %d", c.keep, c.count), got, err, c.want, api.OK)
		got, err = Trim(got, c.keep, c.count)
		same(t, fmt.Sprintf("Trim of keep %d, count %d again", c.keep, c.count), got, err, c.want, api.OK)
	}
}

// P13.1: of one segment none goes, whatever the keep and the count, and whatever the disk.
func TestTrimOne(t *testing.T) {
	for _, g := range []log{empty(t), empty(t).more(t, 30, plenty), high(1000, wide()), high(1000, wide()).more(t, 30, plenty)} {
		for _, d := range []api.Disk{g.st.Disk, armed(g.st.Disk, 0), down(g.st.Disk), capped(g.st.Disk, 1)} {
			for _, keep := range ends {
				for _, count := range ends {
					st := withDisk(g.st, d)
					got, err := Trim(st, keep, count)
					same(t, "Trim of one segment", got, err, st, api.OK)
				}
			}
		}
	}
}

// P13.1: an empty last segment stays, and with it the state of all below it.
func TestTrimEmptyLast(t *testing.T) {
	g, _, _, _ := three(t)
	g = g.rolledEmpty(t)
	snap := "\x02k\x013z\x015"
	want := api.Store{Ver: 5, Segs: []api.Seg{{Base: 5}}, Next: 5, Sure: 5, Size: 7, Sum: crc.Sum(snap)}
	want.Disk = files(sure("m", manBytes(api.Man{Ver: 5, Segs: []int{5}, Size: 7, Sum: want.Sum})), sure(segName(5), ""), sure(snapName(5), snap))
	for _, c := range [][2]int{{0, plenty}, {8, plenty}, {plenty, 0}, {-1, -1}} {
		got, err := Trim(g.st, c[0], c[1])
		same(t, "Trim ahead of an empty segment", got, err, want, api.OK)
	}
	got, err := Trim(g.st, 9, plenty)
	if err != api.OK || len(got.Segs) != 2 || got.Segs[0].Base != 4 {
		t.Errorf("Trim of a keep of 9: %d, %s", err, show(got))
	}
	after := log{st: want, l: g.l}.more(t, 2, plenty)
	holds(t, "appended behind it", after.st, after)
}

// P13.1: a trim whose every step, but the last, is the one that fails for a fuse: how far the store came.
func TestTrimFuse(t *testing.T) {
	g, a, b, c := three(t)
	m := g.st.Disk.Files[0]
	snap := "\x01k\x013"
	man := manBytes(api.Man{Ver: 4, Segs: []int{4}, Size: 4, Sum: crc.Sum(snap)})
	s0, s2, s4, t4 := sure(segName(0), a), sure(segName(2), b), part(segName(4), c, 0), sure(snapName(4), snap)
	ahead, behind := g.st, api.Store{Ver: 4, Segs: []api.Seg{{Base: 4, N: 1, Size: 9}}, Next: 5, Sure: 4, Size: 4, Sum: crc.Sum(snap)}
	for left, want := range []api.Store{
		withDisk(ahead, files(m, s0, s2, s4)),
		withDisk(ahead, files(m, s0, s2, s4, sure(snapName(4), ""))),
		withDisk(ahead, files(m, s0, s2, s4, part(snapName(4), snap, 0))),
		withDisk(ahead, files(m, s0, s2, s4, t4)),
		withDisk(ahead, files(m, sure("n", ""), s0, s2, s4, t4)),
		withDisk(ahead, files(m, part("n", man, 0), s0, s2, s4, t4)),
		withDisk(ahead, files(m, sure("n", man), s0, s2, s4, t4)),
		withDisk(behind, files(sure("m", man), s0, s2, s4, t4)),
		withDisk(behind, files(sure("m", man), s2, s4, t4)),
		withDisk(behind, files(sure("m", man), s4, t4)),
	} {
		wantErr := api.ErrDown
		want.Disk = down(want.Disk)
		if left == 9 {
			wantErr = api.OK
			want.Disk = armed(files(want.Disk.Files...), 0)
		}
		got, err := Trim(withDisk(g.st, armed(g.st.Disk, left)), 0, plenty)
		same(t, fmt.Sprintf("Trim with a fuse of %d", left), got, err, want, wantErr)
		holds(t, "behind it", got, g)
	}
	got, err := Trim(withDisk(g.st, down(g.st.Disk)), 0, plenty)
	same(t, "Trim without power", got, err, withDisk(g.st, down(g.st.Disk)), api.ErrDown)
	got, err = Trim(withDisk(g.st, down(g.st.Disk)), plenty, plenty)
	same(t, "Trim of nothing without power", got, err, withDisk(g.st, down(g.st.Disk)), api.OK)
}

// P13.1: a second Trim behind a first, with records appended between: the floor's own snapshot goes, behind the segments' files.
func TestTrimTwice(t *testing.T) {
	g, _, _, _ := three(t)
	g = g.trimmed(t, 0, plenty)
	for i, data := range []string{"k", "q7", "z8"} {
		r := api.Rec{At: 5 + i, Data: data}
		st, err := store.Append(g.st, 18, r)
		g.st, g.l = fine(t, st, err), append(slices.Clone(g.l), r)
	}
	snap := "\x02q\x017z\x015"
	b, c := rows(g.l[4:7]...), rows(g.l[7])
	m, elder := g.st.Disk.Files[0], sure(snapName(4), "\x01k\x013")
	man := manBytes(api.Man{Ver: 6, Segs: []int{7}, Size: 7, Sum: crc.Sum(snap)})
	s4, s7, t7 := sure(segName(4), b), part(segName(7), c, 0), sure(snapName(7), snap)
	ahead, behind := g.st, api.Store{Ver: 6, Segs: []api.Seg{{Base: 7, N: 1, Size: 9}}, Next: 8, Sure: 7, Size: 7, Sum: crc.Sum(snap)}
	for left, want := range []api.Store{
		withDisk(ahead, files(m, s4, s7, elder)),
		withDisk(ahead, files(m, s4, s7, elder, sure(snapName(7), ""))),
		withDisk(ahead, files(m, s4, s7, elder, part(snapName(7), snap, 0))),
		withDisk(ahead, files(m, s4, s7, elder, t7)),
		withDisk(ahead, files(m, sure("n", ""), s4, s7, elder, t7)),
		withDisk(ahead, files(m, part("n", man, 0), s4, s7, elder, t7)),
		withDisk(ahead, files(m, sure("n", man), s4, s7, elder, t7)),
		withDisk(behind, files(sure("m", man), s4, s7, elder, t7)),
		withDisk(behind, files(sure("m", man), s7, elder, t7)),
		withDisk(behind, files(sure("m", man), s7, t7)),
	} {
		wantErr := api.ErrDown
		want.Disk = down(want.Disk)
		if left == 9 {
			wantErr = api.OK
			want.Disk = armed(files(want.Disk.Files...), 0)
		}
		got, err := Trim(withDisk(g.st, armed(g.st.Disk, left)), 0, plenty)
		same(t, fmt.Sprintf("a second Trim with a fuse of %d", left), got, err, want, wantErr)
		holds(t, "behind it", got, g)
	}
	got, err := Trim(g.st, 0, plenty)
	same(t, "a second Trim", got, err, withDisk(behind, files(sure("m", man), s7, t7)), api.OK)
}

// P13.1: no room for the snapshot's bytes: its file goes again, and the Delete may fail.
func TestTrimFullAppend(t *testing.T) {
	g, _, _, _ := three(t)
	begun := slices.Concat(g.st.Disk.Files, []api.File{sure(snapName(4), "")})
	used := disk.Used(g.st.Disk)
	for _, room := range []int{1, used - 1, used, used + 1, used + 3} {
		st := withDisk(g.st, capped(g.st.Disk, room))
		got, err := Trim(st, 0, plenty)
		same(t, "Trim without room", got, err, st, api.ErrFull)
		for left, want := range []api.Disk{down(g.st.Disk), down(files(begun...)), armed(g.st.Disk, 0), armed(g.st.Disk, 1)} {
			wantErr := api.ErrFull
			if want.Down {
				wantErr = api.ErrDown
			}
			got, err = Trim(withDisk(st, armed(st.Disk, left)), 0, plenty)
			same(t, fmt.Sprintf("Trim without room with a fuse of %d", left), got, err, withDisk(st, capped(want, room)), wantErr)
			holds(t, "behind it", got, g)
		}
	}
}

// P13.1: no room for the manifest: n goes, and the snapshot's file, and each Delete may fail; with just enough room it is done.
func TestTrimFullSwap(t *testing.T) {
	g, _, _, c := three(t)
	m, l, snap := g.st.Disk.Files[0], g.st.Disk.Files[1:], "\x01k\x013"
	man := manBytes(api.Man{Ver: 4, Segs: []int{4}, Size: 4, Sum: crc.Sum(snap)})
	enough := disk.Used(g.st.Disk) + len(snap) + len(man)
	with := func(n []api.File, snap api.File) api.Disk {
		return files(slices.Concat([]api.File{m}, n, l, []api.File{snap})...)
	}
	n, t4 := []api.File{sure("n", "")}, sure(snapName(4), snap)
	for _, room := range []int{disk.Used(g.st.Disk) + 4, enough - 5, enough - 1} {
		st := withDisk(g.st, capped(g.st.Disk, room))
		got, err := Trim(st, 0, plenty)
		same(t, "Trim without room for the manifest", got, err, st, api.ErrFull)
		for left, want := range []api.Disk{
			down(g.st.Disk), down(with(nil, sure(snapName(4), ""))), down(with(nil, part(snapName(4), snap, 0))),
			down(with(nil, t4)), down(with(n, t4)), down(with(nil, t4)), armed(g.st.Disk, 0), armed(g.st.Disk, 1),
		} {
			wantErr := api.ErrFull
			if want.Down {
				wantErr = api.ErrDown
			}
			got, err = Trim(withDisk(st, armed(st.Disk, left)), 0, plenty)
			same(t, fmt.Sprintf("Trim without room for the manifest, with a fuse of %d", left), got, err, withDisk(st, capped(want, room)), wantErr)
			holds(t, "behind it", got, g)
		}
	}
	got, err := Trim(withDisk(g.st, capped(g.st.Disk, enough)), 0, plenty)
	want := api.Store{Ver: 4, Segs: []api.Seg{{Base: 4, N: 1, Size: 9}}, Next: 5, Sure: 4, Size: 4, Sum: crc.Sum(snap)}
	want.Disk = capped(files(sure("m", man), part(segName(4), c, 0), t4), enough)
	same(t, "Trim with just enough room", got, err, want, api.OK)
}

// broken: the store with disks whose fuse goes behind each number of changes, whose power is gone, that have room for so many bytes more, and all of that.
func broken(st api.Store, snap int) []api.Store {
	l := []api.Store{st, withDisk(st, down(st.Disk)), withDisk(st, capped(st.Disk, 1))}
	used, man := disk.Used(st.Disk), len(manBytes(store.Man(st)))
	for left := range 14 + len(st.Segs) {
		l = append(l, withDisk(st, armed(st.Disk, left)))
		for _, room := range []int{0, snap - 1, snap, snap + 9, snap + man} {
			l = append(l, withDisk(st, capped(armed(st.Disk, left), used+room)))
		}
	}
	for room := -9; room < snap+man+12; room += 1 + snap/40 {
		l = append(l, withDisk(st, capped(st.Disk, used+room)))
	}
	return l
}

// turns: keeps and counts, at, below and above what the log has, and the ends.
func turns(st api.Store) [][2]int {
	l := [][2]int{{plenty, plenty}, {0, plenty}, {plenty, 0}, {math.MinInt, math.MinInt}, {-1, plenty}, {plenty, -1}}
	n := len(st.Segs)
	for _, k := range []int{0, 1, n / 2, n - 1} {
		k = min(k, n-1)
		size, count := retainBytes(st.Segs[k:]), st.Next-st.Segs[k].Base
		l = append(l, [2]int{size, plenty}, [2]int{size - 1, plenty}, [2]int{plenty, count}, [2]int{plenty, count - 1}, [2]int{size, count + 1})
	}
	return l
}

// P13.1, P13.2: Trim of all kinds of logs, with all kinds of fuses and caps, by the chapter's words; states and records are the same behind it, beside an error too.
func TestTrim(t *testing.T) {
	told := map[api.Errno]int{}
	for _, g := range logs(t) {
		seen := map[int]bool{}
		for _, turn := range turns(g.st) {
			k := toldPick(g.st.Segs, turn[0], turn[1])
			if seen[k] {
				continue
			}
			seen[k] = true
			snap := len(g.at(g.st.Segs[k].Base).bytes())
			for i, st := range broken(g.st, snap) {
				one := g
				one.st = st
				want, wantErr := toldTrim(one, turn[0], turn[1])
				got, err := Trim(st, turn[0], turn[1])
				same(t, fmt.Sprintf("Trim of %d, %d of %s", turn[0], turn[1], show(st)), got, err, want, wantErr)
				told[err]++
				if i%7 == 0 {
					holds(t, "behind it", got, g)
				}
			}
		}
	}
	if told[api.OK] == 0 || told[api.ErrFull] == 0 || told[api.ErrDown] == 0 || len(told) != 3 {
		t.Errorf("told: %v", told)
	}
}

// P13.2: where it is told OK not too much is kept, and a second Trim of the same keep and count changes nothing, even without power.
func TestTrimAgain(t *testing.T) {
	for _, g := range logs(t) {
		for _, turn := range turns(g.st) {
			got := g.trimmed(t, turn[0], turn[1])
			if n := toldPick(got.st.Segs, turn[0], turn[1]); n != 0 {
				t.Fatalf("behind Trim of %v too much is kept: %s", turn, show(got.st))
			}
			holds(t, "behind it", got.st, g)
			again, err := Trim(got.st, turn[0], turn[1])
			same(t, "Trim again", again, err, got.st, api.OK)
			off := withDisk(got.st, down(got.st.Disk))
			again, err = Trim(off, turn[0], turn[1])
			same(t, "Trim again without power", again, err, off, api.OK)
		}
	}
}

// P13.2: a trim that had no room is done when there is some; so is one behind it that takes more.
func TestTrimBehindFull(t *testing.T) {
	for _, g := range logs(t) {
		full := withDisk(g.st, capped(g.st.Disk, max(1, disk.Used(g.st.Disk))))
		got, err := Trim(full, 0, plenty)
		if len(g.st.Segs) == 1 {
			continue
		}
		same(t, "Trim without room", got, err, full, api.ErrFull)
		got.Disk.Cap = 0
		again, err := Trim(got, 0, plenty)
		same(t, "Trim with room", again, err, g.trimmed(t, 0, plenty).st, api.OK)
	}
}

// P13.1: the steps are safe: wherever the power goes, the manifest that is left finds its snapshot and its segments, whole.
func TestTrimCrash(t *testing.T) {
	for _, g := range logs(t) {
		for left := range 12 + len(g.st.Segs) {
			st, _ := Trim(withDisk(g.st, armed(g.st.Disk, left)), 0, plenty)
			d := disk.Crash(st.Disk, nil)
			s, _ := disk.Read(d, "m")
			m, err := manifest.Get(s)
			if err != api.OK || m.Ver != st.Ver {
				t.Fatalf("of %s the manifest is %v, %d", show(st), m, err)
			}
			snap, err := disk.Read(d, snapName(m.Segs[0]))
			if m.Segs[0] > 0 && (err != api.OK || snap != g.at(m.Segs[0]).bytes() || len(snap) != m.Size || crc.Sum(snap) != m.Sum) {
				t.Fatalf("of %s the snapshot is %q, %d", show(st), snap, err)
			}
			data := ""
			for _, base := range m.Segs {
				s, err := disk.Read(d, segName(base))
				if err != api.OK {
					t.Fatalf("of %s there is no file of %d", show(st), base)
				}
				data += s
			}
			if sureOnes := g.l[m.Segs[0]-g.base : st.Sure-g.base]; !strings.HasPrefix(data, rows(sureOnes...)) {
				t.Fatalf("of %s not all that is sure is left", show(st))
			}
		}
	}
}

// roomy: the store in lists with spare room, in which there are others.
func roomy(st api.Store) api.Store {
	l := append(slices.Clone(st.Disk.Files), sure("spare", "s"), sure("room", "r"), sure("more", ""))
	st.Disk.Files = l[:len(st.Disk.Files)]
	segs := append(slices.Clone(st.Segs), api.Seg{Base: -1, N: -2, Size: -3}, api.Seg{Base: -4}, api.Seg{Base: -5})
	st.Segs = segs[:len(st.Segs)]
	return st
}

// deep: the store with all its lists' room, of which nothing is shared.
func deep(st api.Store) api.Store {
	st.Disk.Files = slices.Clone(st.Disk.Files[:cap(st.Disk.Files)])
	st.Segs = slices.Clone(st.Segs[:cap(st.Segs)])
	return st
}

// still fails the test unless the store, and its lists' spare room, is as it was.
func still(t *testing.T, what string, st, was api.Store) {
	t.Helper()
	if now := deep(st); !alike(now, was) {
		t.Fatalf("%s changed what was handed in: %s\nwas %s", what, show(now), show(was))
	}
}

// P13.1: what is handed in stays as it was, its spare room too, and so do stores of which later ones are made.
func TestHandedIn(t *testing.T) {
	for _, g := range logs(t) {
		for _, st := range broken(roomy(g.st), 40) {
			was := deep(st)
			one, _ := Trim(st, 0, plenty)
			oneWas := deep(one)
			half, _ := Trim(st, plenty, 5)
			halfWas := deep(half)
			for _, s := range []api.Store{one, half} {
				next, _ := store.Append(s, 1, rec(s.Next))
				next, _ = store.Append(next, plenty, rec(next.Next))
				store.Append(s, plenty, rec(s.Next))
				store.Sync(s)
				Trim(next, 0, plenty)
				Trim(s, 0, 0)
			}
			store.Append(st, plenty, rec(st.Next))
			clear(State(st, st.Next))
			clear(State(st, st.Segs[0].Base))
			Snap(st)
			still(t, "a call", st, was)
			still(t, "a call", one, oneWas)
			still(t, "a call", half, halfWas)
		}
	}
}

// next: the log behind one more call, which is what the chapter's words say.
func (g log) next(t *testing.T, r *rand.Rand) (log, api.Errno) {
	t.Helper()
	st, err := g.st, api.OK
	switch r.Intn(12) {
	case 0:
		st, err = store.Sync(st)
	case 1:
		st.Disk = disk.Arm(st.Disk, r.Intn(40)-15)
	case 2:
		st.Disk = disk.Limit(st.Disk, disk.Used(st.Disk)+r.Intn(200)-50)
	case 3:
		st.Disk = disk.Limit(st.Disk, 0)
	case 4, 5, 6:
		keep, count := r.Intn(500), r.Intn(60)
		want, wantErr := toldTrim(g, keep, count)
		st, err = Trim(st, keep, count)
		same(t, fmt.Sprintf("Trim of %d, %d of %s", keep, count, show(g.st)), st, err, want, wantErr)
	default:
		for range 1 + r.Intn(8) {
			data := []byte(strings.Repeat("v", r.Intn(9)*r.Intn(9)))
			if len(data) > 0 {
				data[0] = byte('a' + r.Intn(12))
			}
			one := api.Rec{At: st.Next, Time: r.Intn(9), Data: string(data)}
			st, err = store.Append(st, []int{plenty, 200, 90, 20, 1}[r.Intn(5)], one)
			if err == api.OK {
				g.l = append(slices.Clone(g.l), one)
			}
		}
	}
	g.st = st
	return g, err
}

// P13.1, P13.2: long histories of appends, trims, fuses and caps: states and records stay, beside errors too, and so do elder stores, of which others are made.
func TestHistory(t *testing.T) {
	told := map[api.Errno]int{}
	for seed := range 40 {
		r := rand.New(rand.NewSource(int64(seed)))
		g := empty(t)
		if seed%3 == 1 {
			g = high(300, table{}.with(api.Rec{Data: "av"}, api.Rec{Data: "pw"}, api.Rec{Data: "lx"}))
		}
		var elder []log
		var was []api.Store
		for range 100 {
			elder, was = append(elder, g), append(was, deep(g.st))
			if g.st.Disk.Down || r.Intn(30) == 0 {
				g = elder[r.Intn(len(elder))]
			}
			next, err := g.next(t, r)
			told[err]++
			holds(t, "a history", next.st, next)
			g = next
		}
		for i, e := range elder {
			still(t, "a later call", e.st, was[i])
		}
	}
	for _, err := range []api.Errno{api.OK, api.ErrFull, api.ErrDown} {
		if told[err] == 0 {
			t.Errorf("told: %v", told)
		}
	}
}

// Beside an error Create tells a store without segments: its state is none, and nothing goes.
func TestNoSegments(t *testing.T) {
	for _, d := range []api.Disk{{Cap: 5}, {Armed: true}, {Armed: true, Left: 2}, {Down: true}} {
		st, err := store.Create(d)
		if err == api.OK {
			t.Fatalf("Create: %s", show(st))
		}
		if Snap(st) != "" || len(State(st, 0)) != 0 {
			t.Errorf("Snap = %q, State = %v", Snap(st), State(st, 0))
		}
		for _, n := range ends {
			got, err := Trim(st, n, n)
			same(t, "Trim without segments", got, err, st, api.OK)
		}
	}
}

// Of an offset below the floor, or above Next, nothing is promised, but the call ends.
func TestStateNotAsked(t *testing.T) {
	for _, g := range logs(t) {
		for _, off := range append([]int{g.st.Segs[0].Base - 1, g.st.Next + 1}, ends...) {
			State(g.st, off)
			State(withDisk(g.st, down(g.st.Disk)), off)
		}
	}
}

// Of a disk on which there is a file of the snapshot's name already nothing is promised, but it stays as it was.
func TestTrimThere(t *testing.T) {
	g, _, _, _ := three(t)
	st := g.st
	st.Disk.Files = append(slices.Clone(st.Disk.Files), sure(snapName(4), "other"))
	got, err := Trim(st, 0, plenty)
	same(t, "Trim where there is such a file", got, err, st, api.ErrThere)
}

// The same again answers the same, whatever was asked between.
func TestNothingKept(t *testing.T) {
	for _, g := range logs(t) {
		first, err := Trim(g.st, 100, 9)
		state := State(g.st, g.st.Next)
		Trim(high(9, wide()).more(t, 5, 1).st, 0, 0)
		again, errAgain := Trim(g.st, 100, 9)
		same(t, "Trim again", again, errAgain, first, err)
		if !slices.Equal(State(g.st, g.st.Next), state) {
			t.Errorf("State of %s isn't the same again", show(g.st))
		}
	}
}
