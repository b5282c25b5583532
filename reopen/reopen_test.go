package reopen

import (
	"encoding/binary"
	"fmt"
	"hash/crc32"
	"math"
	"math/rand"
	"slices"
	"strings"
	"testing"

	"wagoner/api"
	"wagoner/crc"
	"wagoner/disk"
	"wagoner/manifest"
	"wagoner/record"
	"wagoner/store"
	"wagoner/trim"
)

// plenty is a keep, or a count, of which nothing is too much; a seg that no segment's bytes reach; and more bytes than a file has.
const plenty = math.MaxInt

// rec: a record of that offset: of seven keys one is set, or goes, or nothing is.
func rec(at int) api.Rec {
	r := api.Rec{At: at, Time: at * 3 % 1000}
	switch {
	case at%11 == 10:
	case at%5 == 4:
		r.Data = string("abcdefg"[at/5%7])
	default:
		r.Data = string("abcdefg"[at*3%7]) + strings.Repeat(string(rune('0'+at%10)), 1+at*7%(api.MaxPayload-1))
	}
	return r
}

// recs: the records from one offset up to another one.
func recs(from, to int) []api.Rec {
	var l []api.Rec
	for at := from; at < to; at++ {
		l = append(l, rec(at))
	}
	return l
}

// rows: the frames of records, one behind the other.
func rows(l ...api.Rec) string {
	s, err := record.Row(l)
	if err != api.OK {
		panic("no records")
	}
	return s
}

// segName, snapName: a segment's name, a snapshot's, by the words of chapter 7.
func segName(base int) string  { return fmt.Sprintf("s%013d", base) }
func snapName(base int) string { return fmt.Sprintf("t%013d", base) }

// manBytes: a manifest's bytes.
func manBytes(m api.Man) string {
	s, err := manifest.Put(m)
	if err != api.OK {
		panic("no manifest")
	}
	return s
}

// number: the bytes of n, by the words of chapter 1.
func number(n int) string { return string(binary.AppendUvarint(nil, uint64(n))) }

// manBody: the body of a manifest, by the words of chapter 10, whether it may be or not.
func manBody(m api.Man) string {
	s := number(m.Ver) + number(len(m.Segs))
	for _, base := range m.Segs {
		s += number(base)
	}
	return s + number(m.Size) + string(binary.LittleEndian.AppendUint32(nil, m.Sum))
}

// framed: the frame of a body, by the words of chapter 3; its sum turned by turn.
func framed(body string, turn uint32) string {
	n := number(len(body))
	sum := crc32.Checksum([]byte(n+body), crc32.MakeTable(crc32.Castagnoli)) ^ turn
	return n + string(binary.LittleEndian.AppendUint32(nil, sum)) + body
}

// table is a state, by its keys: their values, of no bytes where there is none.
type table [256]string

// with: the state behind the records.
func (t table) with(l ...api.Rec) table {
	for _, r := range l {
		if r.Data != "" {
			t[r.Data[0]] = r.Data[1:]
		}
	}
	return t
}

// pairs: the state's pairs.
func (t table) pairs() []api.Pair {
	var l []api.Pair
	for key, val := range t {
		if val != "" {
			l = append(l, api.Pair{Key: byte(key), Val: val})
		}
	}
	return l
}

// bytes: the state's bytes, by the words of chapter 5.
func (t table) bytes() string {
	l := t.pairs()
	s := number(len(l))
	for _, p := range l {
		s += string([]byte{p.Key}) + number(len(p.Val)) + p.Val
	}
	return s
}

// sure, part: a file all of whose bytes are sure, and one of whose bytes so many are.
func sure(name, data string) api.File             { return part(name, data, len(data)) }
func part(name, data string, n int) api.File      { return api.File{Name: name, Data: data, Sure: n} }
func files(l ...api.File) api.Disk                { return api.Disk{Files: l} }
func armed(d api.Disk, left int) api.Disk         { d.Armed, d.Left = true, left; return d }
func down(d api.Disk) api.Disk                    { d.Armed, d.Left, d.Down = true, 0, true; return d }
func capped(d api.Disk, n int) api.Disk           { d.Cap = n; return d }
func withDisk(st api.Store, d api.Disk) api.Store { st.Disk = d; return st }
func alone(d api.Disk) api.Store                  { return api.Store{Disk: d} }

// with: the disk with these files, in place of those of their names.
func with(d api.Disk, l ...api.File) api.Disk {
	for _, f := range l {
		d = less(d, f.Name)
		d.Files = append(d.Files, f)
	}
	slices.SortFunc(d.Files, func(a, b api.File) int { return strings.Compare(a.Name, b.Name) })
	return d
}

// less: the disk without the file of that name.
func less(d api.Disk, name string) api.Disk {
	d.Files = slices.DeleteFunc(slices.Clone(d.Files), func(f api.File) bool { return f.Name == name })
	return d
}

// the: the file of that name.
func the(d api.Disk, name string) api.File {
	for _, f := range d.Files {
		if f.Name == name {
			return f
		}
	}
	panic("no file " + name)
}

// showDisk, show: in words, in short.
func showDisk(d api.Disk) string {
	var l []string
	for _, f := range d.Files {
		l = append(l, fmt.Sprintf("%q: %d bytes, %d sure", f.Name, len(f.Data), f.Sure))
	}
	return fmt.Sprintf("[%s] Cap %d Armed %v Left %d Down %v", strings.Join(l, "; "), d.Cap, d.Armed, d.Left, d.Down)
}

func show(st api.Store) string {
	return fmt.Sprintf("Ver %d Segs %v Next %d Sure %d Size %d Sum %d %s", st.Ver, st.Segs, st.Next, st.Sure, st.Size, st.Sum, showDisk(st.Disk))
}

// alike: are both the same, in all fields?
func alike(a, b api.Store) bool {
	c, d := a.Disk, b.Disk
	disks := slices.Equal(c.Files, d.Files) && c.Cap == d.Cap && c.Armed == d.Armed && c.Left == d.Left && c.Down == d.Down
	return disks && a.Ver == b.Ver && slices.Equal(a.Segs, b.Segs) && a.Next == b.Next && a.Sure == b.Sure && a.Size == b.Size && a.Sum == b.Sum
}

// same fails the test unless that was told.
func same(t *testing.T, what string, got api.Store, err api.Errno, want api.Store, wantErr api.Errno) {
	t.Helper()
	if !alike(got, want) || err != wantErr {
		t.Fatalf("%s: error %d, %s\nwant %d, %s", what, err, show(got), wantErr, show(want))
	}
}

// opens fails the test unless Open of the disk tells that.
func opens(t *testing.T, what string, d api.Disk, want api.Store, wantErr api.Errno) {
	t.Helper()
	if got, err := Open(d); !alike(got, want) || err != wantErr {
		same(t, what+", Open of "+showDisk(d), got, err, want, wantErr)
	}
}

// refused fails the test unless Open tells ErrForm, and leaves the disk as it was, with whatever fuse and cap.
func refused(t *testing.T, what string, d api.Disk) {
	t.Helper()
	for _, d := range []api.Disk{d, armed(d, 0), armed(d, 1), capped(d, 1)} {
		opens(t, what, d, alone(d), api.ErrForm)
	}
	opens(t, what+", without power", down(d), alone(down(d)), api.ErrDown)
}

// fine fails the test unless that is OK; and answers the store.
func fine(t *testing.T, st api.Store, err api.Errno) api.Store {
	t.Helper()
	if err != api.OK {
		t.Fatalf("error %d of %s", err, show(st))
	}
	return st
}

// newLog: what a new log is, by the words of chapter 12.
func newLog() api.Store {
	st := api.Store{Ver: 1, Segs: []api.Seg{{}}}
	st.Disk = files(sure("m", framed("\x01\x01\x00\x00\x00\x00\x00\x00", 0)), sure("s0000000000000", ""))
	return st
}

// log is a store, and what it has, told apart from it: the state below its first records, and the records behind that one, from the offset base on.
type log struct {
	st    api.Store
	base  int
	below table
	l     []api.Rec
}

// at: the state below that offset.
func (g log) at(off int) table { return g.below.with(g.l[:off-g.base]...) }

// empty: a new log.
func empty(t *testing.T) log {
	t.Helper()
	st, err := store.Create(api.Disk{})
	return log{st: fine(t, st, err)}
}

// high: a log whose floor is above 0, as a snapshot that is put in place of a log leaves it.
func high(base int, below table) log {
	snap := below.bytes()
	st := api.Store{Ver: 3, Segs: []api.Seg{{Base: base}}, Next: base, Sure: base, Size: len(snap), Sum: crc.Sum(snap)}
	man := api.Man{Ver: 3, Segs: []int{base}, Size: st.Size, Sum: st.Sum}
	st.Disk = files(sure("m", manBytes(man)), sure(segName(base), ""), sure(snapName(base), snap))
	return log{st: st, base: base, below: below}
}

// put: the log with that record more.
func (g log) put(t *testing.T, r api.Rec, seg int) log {
	t.Helper()
	st, err := store.Append(g.st, seg, r)
	g.st, g.l = fine(t, st, err), append(slices.Clone(g.l), r)
	return g
}

// more: the log with so many records more, each with that seg, none of them synced but by a roll.
func (g log) more(t *testing.T, n, seg int) log {
	t.Helper()
	for range n {
		g = g.put(t, rec(g.st.Next), seg)
	}
	return g
}

// synced: the log behind a Sync.
func (g log) synced(t *testing.T) log {
	t.Helper()
	st, err := store.Sync(g.st)
	g.st = fine(t, st, err)
	return g
}

// trimmed: the log behind a Trim.
func (g log) trimmed(t *testing.T, keep, count int) log {
	t.Helper()
	st, err := trim.Trim(g.st, keep, count)
	g.st = fine(t, st, err)
	return g
}

// rolledEmpty: the log with a last segment without records, as a roll leaves it ahead of an Append that has no room.
func (g log) rolledEmpty(t *testing.T) log {
	t.Helper()
	full := g.st
	full.Disk.Cap = disk.Used(full.Disk) + len(manBytes(store.Man(g.st))) + 8
	st, err := store.Append(full, 1, api.Rec{At: full.Next, Data: strings.Repeat("z", api.MaxPayload)})
	if err != api.ErrFull || len(st.Segs) != len(g.st.Segs)+1 || st.Segs[len(st.Segs)-1].N != 0 {
		t.Fatalf("no empty last segment: %d, %s", err, show(st))
	}
	st.Disk.Cap = 0
	g.st = st
	return g
}

// wide: a state of all keys that there are, of values as long as may be.
func wide() table {
	var s table
	for i := range s {
		s[i] = strings.Repeat(string(rune('!'+i%90)), api.MaxPayload-1)
	}
	return s
}

// logs: new; of one segment and of many, with an empty last one; with a floor of 0 and above it; behind one trim and behind two; near the last offset; synced and not.
func logs(t *testing.T) []log {
	t.Helper()
	three := empty(t).more(t, 9, 120)
	long := empty(t).more(t, 40, 150)
	twice := long.trimmed(t, 300, plenty).more(t, 30, 200)
	kv := table{}.with(api.Rec{Data: "av"}, api.Rec{Data: "xw"})
	return []log{
		empty(t), empty(t).more(t, 1, plenty), empty(t).more(t, 9, plenty), empty(t).more(t, 9, plenty).synced(t), empty(t).more(t, 4, plenty).synced(t).more(t, 4, plenty),
		three, three.synced(t), three.rolledEmpty(t), three.synced(t).more(t, 1, plenty),
		long, long.synced(t), long.rolledEmpty(t), empty(t).more(t, 1, 1).rolledEmpty(t),
		long.trimmed(t, 300, plenty), long.trimmed(t, 0, plenty), long.trimmed(t, 0, plenty).more(t, 1, plenty),
		twice, twice.trimmed(t, 100, plenty), twice.trimmed(t, 0, 0).more(t, 20, 1), twice.rolledEmpty(t),
		high(1, kv), high(1000, kv).more(t, 20, 90), high(1000, kv).more(t, 3, plenty).rolledEmpty(t), high(77, table{}).more(t, 12, 60),
		high(5000, wide()).more(t, 30, 400), high(api.MaxOffset, kv), high(api.MaxOffset-9, kv).more(t, 9, 100),
		empty(t).more(t, api.MaxSegs, 1), empty(t).more(t, api.MaxSegs+20, 50).trimmed(t, 3000, plenty),
	}
}

// change is a step on the disk: its kind, the file, what more it is told.
type change struct {
	kind, file, more string
	n                int
}

// in: the disk behind the change, by layer 6.
func (c change) in(d api.Disk) (api.Disk, api.Errno) {
	switch c.kind {
	case "create":
		return disk.Create(d, c.file)
	case "append":
		return disk.Append(d, c.file, c.more)
	case "sync":
		return disk.Sync(d, c.file)
	case "cut":
		return disk.Cut(d, c.file, c.n)
	case "rename":
		return disk.Rename(d, c.file, c.more)
	}
	return disk.Delete(d, c.file)
}

// inTurn: the disk behind the changes, up to the first that fails, and the error.
func inTurn(d api.Disk, l ...change) (api.Disk, api.Errno) {
	for _, c := range l {
		next, err := c.in(d)
		if d = next; err != api.OK {
			return d, err
		}
	}
	return d, api.OK
}

// toldNew: what Open tells of a disk without m, by the words of chapters 14 and 12.
func toldNew(d api.Disk) (api.Store, api.Errno) {
	var l []change
	for _, f := range d.Files {
		l = append(l, change{kind: "delete", file: f.Name})
	}
	st := newLog()
	l = append(l, change{kind: "create", file: "s0000000000000"}, change{kind: "create", file: "n"}, change{kind: "append", file: "n", more: the(st.Disk, "m").Data},
		change{kind: "sync", file: "n"}, change{kind: "rename", file: "n", more: "m"})
	d, err := inTurn(d, l...)
	if err == api.ErrFull {
		d, err = inTurn(d, change{kind: "delete", file: "n"})
		if err == api.OK {
			err = api.ErrFull
		}
	}
	if err != api.OK {
		return alone(d), err
	}
	return withDisk(st, d), api.OK
}

// toldSeg: a segment's records, and their bytes, by the words of chapter 9; is that all there is?
func toldSeg(s string, base int) (api.Seg, bool) {
	seg := api.Seg{Base: base}
	l, _, _ := record.Rows(s)
	for _, r := range l {
		if r.At != base+seg.N {
			break
		}
		seg.N, seg.Size = seg.N+1, seg.Size+record.Size(r)
	}
	return seg, seg.Size == len(s)
}

// toldLog: the store that the disk's manifest tells, by the chapter's words, and whether the last segment is whole; false, if that is ErrForm.
func toldLog(d api.Disk) (st api.Store, whole, ok bool) {
	m, err := manifest.Get(the(d, "m").Data)
	if err != api.OK {
		return st, false, false
	}
	if floor := m.Segs[0]; floor > 0 {
		s, err := disk.Read(d, snapName(floor))
		if err != api.OK || len(s) != m.Size || crc.Sum(s) != m.Sum {
			return st, false, false
		}
	}
	st = api.Store{Ver: m.Ver, Size: m.Size, Sum: m.Sum}
	for i, base := range m.Segs {
		s, err := disk.Read(d, segName(base))
		if err != api.OK || i > 0 && (!whole || st.Next != base) {
			return st, false, false
		}
		var seg api.Seg
		seg, whole = toldSeg(s, base)
		st.Segs, st.Next = append(st.Segs, seg), base+seg.N
	}
	st.Sure = st.Next
	return st, whole, true
}

// toldOpen: what Open tells, by the chapter's words.
func toldOpen(d api.Disk) (api.Store, api.Errno) {
	if d.Down {
		return alone(d), api.ErrDown
	}
	if !slices.Contains(disk.Names(d), "m") {
		return toldNew(d)
	}
	st, whole, ok := toldLog(d)
	if !ok {
		return alone(d), api.ErrForm
	}
	named := []string{"m"}
	if st.Segs[0].Base > 0 {
		named = append(named, snapName(st.Segs[0].Base))
	}
	for _, s := range st.Segs {
		named = append(named, segName(s.Base))
	}
	var l []change
	for _, f := range d.Files {
		if !slices.Contains(named, f.Name) {
			l = append(l, change{kind: "delete", file: f.Name})
		}
	}
	last := st.Segs[len(st.Segs)-1]
	if !whole {
		l = append(l, change{kind: "cut", file: segName(last.Base), n: last.Size})
	}
	d, err := inTurn(d, append(l, change{kind: "sync", file: segName(last.Base)})...)
	if err != api.OK {
		return alone(d), err
	}
	return withDisk(st, d), api.OK
}

// holds fails the test unless the store has just the log's records from its floor on, up to its Next, and the same state below each offset that it has.
func holds(t *testing.T, what string, st api.Store, g log) {
	t.Helper()
	floor := st.Segs[0].Base
	s := g.at(floor)
	if want := s.bytes(); floor > 0 && trim.Snap(st) != want || floor == 0 && trim.Snap(st) != "" {
		t.Fatalf("%s: Snap of %s = %q, want %q", what, show(st), trim.Snap(st), want)
	}
	for off := floor; off <= st.Next; off++ {
		if got := trim.State(st, off); !slices.Equal(got, s.pairs()) {
			t.Fatalf("%s: State of %s at %d = %v, want %v", what, show(st), off, got, s.pairs())
		}
		if off == st.Next {
			break
		}
		want := g.l[off-g.base]
		if r, err := store.Read(st, off); r != want || err != api.OK {
			t.Fatalf("%s: Read of %d = %v, %d", what, off, r, err)
		}
		s = s.with(want)
	}
	if l := store.From(st, floor, plenty, plenty); !slices.Equal(l, g.l[floor-g.base:st.Sure-g.base]) {
		t.Fatalf("%s: From of %s = %d records", what, show(st), len(l))
	}
}

// P14.1: the chapter's examples: a disk without files, and a torn record.
func TestExample(t *testing.T) {
	opens(t, "without files", api.Disk{}, newLog(), api.OK)
	g := empty(t).put(t, api.Rec{Data: "a"}, 16).put(t, api.Rec{At: 1, Data: "b"}, 16).put(t, api.Rec{At: 2, Data: "c"}, 16)
	d := disk.Crash(g.st.Disk, []int{0, 0, 7})
	if torn := the(d, segName(2)); len(torn.Data) != 7 {
		t.Fatalf("nothing is torn: %s", showDisk(d))
	}
	want := api.Store{Ver: 2, Segs: []api.Seg{{Base: 0, N: 2, Size: 16}, {Base: 2}}, Next: 2, Sure: 2}
	want.Disk = files(sure("m", manBytes(api.Man{Ver: 2, Segs: []int{0, 2}})), sure(segName(0), rows(g.l[:2]...)), sure(segName(2), ""))
	opens(t, "torn", d, want, api.OK)
}

// P14.1: a disk that is Down: ErrDown, whatever it has; it stays as it was.
func TestDown(t *testing.T) {
	for _, d := range messy(t) {
		d.Down = true
		for _, d := range []api.Disk{d, armed(d, 0), armed(d, 9), capped(d, 1), capped(armed(d, 1), 1)} {
			opens(t, "without power", d, alone(d), api.ErrDown)
		}
	}
}

// P14.1: a disk without files: a new log, or how far the disk came where a step fails for a fuse.
func TestNewFuse(t *testing.T) {
	s, want := sure("s0000000000000", ""), newLog()
	m := the(want.Disk, "m").Data
	for left, d := range []api.Disk{
		files(), files(s), files(sure("n", ""), s), files(part("n", m, 0), s), files(sure("n", m), s), want.Disk,
	} {
		st, err := alone(down(d)), api.ErrDown
		if left == 5 {
			st, err = withDisk(want, armed(d, 0)), api.OK
		}
		opens(t, "a new log", armed(api.Disk{}, left), st, err)
	}
	opens(t, "a new log", armed(api.Disk{}, 9), withDisk(want, armed(want.Disk, 4)), api.OK)
}

// P14.1: a disk without files that has no room for the manifest: n goes, the file of 0 stays; that Delete may fail, too.
func TestNewFull(t *testing.T) {
	s, want := sure("s0000000000000", ""), newLog()
	n := len(the(want.Disk, "m").Data)
	for room := 1; room < n; room++ {
		opens(t, "a new log", capped(api.Disk{}, room), alone(capped(files(s), room)), api.ErrFull)
		for left, d := range []api.Disk{down(files()), down(files(s)), down(files(sure("n", ""), s)), armed(files(s), 0), armed(files(s), 1)} {
			err := api.ErrFull
			if d.Down {
				err = api.ErrDown
			}
			opens(t, "a new log", capped(armed(api.Disk{}, left), room), alone(capped(d, room)), err)
		}
	}
	opens(t, "a new log", capped(api.Disk{}, n), withDisk(want, capped(want.Disk, n)), api.OK)
	// What is left of one that had no room is no log's: it goes, and a new one is begun.
	opens(t, "a new log again", capped(files(s), n-1), alone(capped(files(s), n-1)), api.ErrFull)
	opens(t, "a new log again", files(s), want, api.OK)
}

// P14.1: a disk without the file m that has others: these go, one by one, in the order of their names, and a new log is begun.
func TestOthersFuse(t *testing.T) {
	want := newLog()
	a, n, s0, s5, t5, z := sure("a", "xy"), part("n", the(want.Disk, "m").Data, 3), sure(segName(0), rows(recs(0, 5)...)), part(segName(5), rows(recs(5, 8)...), 9), sure(snapName(5), "\x00"), sure("z", "")
	m := the(want.Disk, "m").Data
	first := sure(segName(0), "")
	for left, d := range []api.Disk{
		files(a, n, s0, s5, t5, z), files(n, s0, s5, t5, z), files(s0, s5, t5, z), files(s5, t5, z), files(t5, z), files(z), files(),
		files(first), files(sure("n", ""), first), files(part("n", m, 0), first), files(sure("n", m), first), want.Disk,
	} {
		st, err := alone(down(d)), api.ErrDown
		if left == 11 {
			st, err = withDisk(want, armed(d, 0)), api.OK
		}
		opens(t, "others", armed(files(a, n, s0, s5, t5, z), left), st, err)
	}
	opens(t, "others", files(a, n, s0, s5, t5, z), want, api.OK)
	for _, name := range []string{"M", "mm", "l", "n", "m ", "m\x00", "\x00", strings.Repeat("m", api.MaxName), "s", segName(0), segName(0) + "0", snapName(0), segName(1), snapName(1)} {
		opens(t, "another", files(sure(name, the(want.Disk, "m").Data)), want, api.OK)
	}
}

// P14.1: no m, but others, and little room: they go ahead of it, so there may be enough then.
func TestOthersFull(t *testing.T) {
	want := newLog()
	n := len(the(want.Disk, "m").Data)
	others := files(sure("a", strings.Repeat("a", 100)), sure("n", "n"), sure(segName(0), rows(recs(0, 5)...)))
	opens(t, "room behind the others", capped(others, n), withDisk(want, capped(want.Disk, n)), api.OK)
	first := files(sure(segName(0), ""))
	opens(t, "no room behind the others", capped(others, n-1), alone(capped(first, n-1)), api.ErrFull)
	opens(t, "no room, and a fuse", capped(armed(others, 5), n-1), alone(capped(down(files(sure("n", ""), sure(segName(0), ""))), n-1)), api.ErrDown)
}

// noMans: bytes that are no manifest's, each for one fault: cut, turned, longer, a frame of another body, a manifest that may not be.
func noMans(good string) map[string]string {
	l := map[string]string{"none": "", "a nought": "\x00", "twice": good + good, "a byte behind": good + "\x00", "a byte ahead": "\x08" + good, "another frame behind": good + framed("x", 0), "noughts": strings.Repeat("\x00", len(good))}
	for i := range good {
		l[fmt.Sprintf("cut at %d", i)] = good[:i]
		for bit := range 8 {
			b := []byte(good)
			b[i] ^= 1 << bit
			l[fmt.Sprintf("bit %d of byte %d turned", bit, i)] = string(b)
		}
	}
	body := manBody(api.Man{Ver: 1, Segs: []int{0}})
	for what, s := range map[string]string{
		"short body": body[:len(body)-1], "long body": body + "\x00", "body of a byte": "\x01", "long number": "\x81\x00" + body[1:], "more segments than there stand": "\x01\x02" + body[2:], "fewer segments": "\x01\x00" + body[2:], "a record's body": "\x00\x00a",
	} {
		l[what] = framed(s, 0)
	}
	many := make([]int, api.MaxSegs+1)
	for i := range many {
		many[i] = i
	}
	for what, m := range map[string]api.Man{
		"Ver 0": {Segs: []int{0}}, "Ver too great": {Ver: api.MaxOffset + 1, Segs: []int{0}}, "no segment": {Ver: 1}, "twice a segment": {Ver: 1, Segs: []int{0, 0}}, "falling": {Ver: 1, Segs: []int{5, 0}, Size: 1},
		"too many": {Ver: 1, Segs: many}, "an offset too great": {Ver: 1, Segs: []int{0, api.MaxOffset + 1}}, "a Size at 0": {Ver: 1, Segs: []int{0}, Size: 1}, "a Sum at 0": {Ver: 1, Segs: []int{0}, Sum: 1},
		"no Size above 0": {Ver: 1, Segs: []int{5}}, "a Size too great": {Ver: 1, Segs: []int{5}, Size: api.MaxBody + 1},
	} {
		l[what] = framed(manBody(m), 0)
	}
	l["another sum"] = framed(body, 1)
	l["too long"] = number(api.MaxBody+1) + strings.Repeat("a", api.MaxBody+5)
	return l
}

// P14.1: bytes of m that are no manifest's, in each way: ErrForm, and nothing is done, nothing goes.
func TestNoManifest(t *testing.T) {
	for _, g := range []log{empty(t).more(t, 3, plenty), empty(t).more(t, 9, 120), high(5, table{}.with(rec(0))).more(t, 4, 40)} {
		d := with(g.st.Disk, sure("n", "new"), sure("other", ""))
		good := the(d, "m").Data
		if st, err := Open(d); err != api.OK || len(st.Disk.Files) != len(g.st.Disk.Files) {
			t.Fatalf("the disk that is to be spoilt is none: %d, %s", err, show(st))
		}
		for what, s := range noMans(good) {
			if _, err := manifest.Get(s); err == api.OK {
				t.Fatalf("%s: it is a manifest's", what)
			}
			refused(t, what, with(d, sure("m", s)))
			refused(t, what+", not sure", with(d, part("m", s, 0)))
		}
		refused(t, "m alone", files(sure("m", "")))
		refused(t, "a manifest in n alone", with(d, sure("m", ""), sure("n", good)))
	}
}

// P14.1: a manifest whose floor is above 0: its snapshot's file is missing, has another size, or another sum.
func TestSnapshot(t *testing.T) {
	for _, g := range []log{high(1, table{}), high(7, table{}.with(rec(0), rec(1))).more(t, 3, plenty), high(1000, wide()).more(t, 9, 120), empty(t).more(t, 20, 90).trimmed(t, 100, plenty)} {
		d, floor := g.st.Disk, g.st.Segs[0].Base
		snap, m := the(d, snapName(floor)).Data, store.Man(g.st)
		refused(t, "no snapshot", less(d, snapName(floor)))
		for _, at := range []int{0, floor - 1, floor + 1} {
			refused(t, "the snapshot of another floor", with(less(d, snapName(floor)), sure(snapName(at), snap)))
		}
		for _, s := range []string{"", snap[:len(snap)-1], snap + "\x00", snap + snap, "\x00" + snap} {
			refused(t, "a snapshot of another size", with(d, sure(snapName(floor), s)))
		}
		for i := 0; i < len(snap); i += 1 + len(snap)/40 {
			b := []byte(snap)
			b[i] ^= 1 << (i % 8)
			refused(t, "a snapshot of another sum", with(d, sure(snapName(floor), string(b))))
		}
		for _, other := range []api.Man{{Size: m.Size + 1, Sum: m.Sum}, {Size: m.Size - 1, Sum: m.Sum}, {Size: m.Size, Sum: m.Sum + 1}, {Size: m.Size, Sum: m.Sum ^ 1<<31}, {Size: m.Size, Sum: ^m.Sum}, {Size: m.Size}} {
			other.Ver, other.Segs = m.Ver, m.Segs
			if manifest.Right(other) {
				refused(t, "a manifest of another snapshot", with(d, sure("m", manBytes(other))))
			}
		}
	}
}

// P14.1: of a snapshot just the size and the sum are asked for: not that it is a state's bytes, nor that it is sure.
func TestSnapshotAny(t *testing.T) {
	for _, snap := range []string{"x", "\x05", strings.Repeat("\xff", 300), strings.Repeat("y", api.MaxBody), "\x01a\x01b"} {
		st := api.Store{Ver: 9, Segs: []api.Seg{{Base: 4, N: 2, Size: len(rows(recs(4, 6)...))}}, Next: 6, Sure: 6, Size: len(snap), Sum: crc.Sum(snap)}
		m := sure("m", manBytes(api.Man{Ver: 9, Segs: []int{4}, Size: st.Size, Sum: st.Sum}))
		for _, n := range []int{0, 1, len(snap)} {
			st.Disk = files(m, sure(segName(4), rows(recs(4, 6)...)), part(snapName(4), snap, n))
			opens(t, "any snapshot", st.Disk, st, api.OK)
		}
	}
}

// P14.1: with a floor of 0 there is no snapshot: the file of such a name is none of the log's.
func TestFloorNought(t *testing.T) {
	g := empty(t).more(t, 9, 120).synced(t)
	opens(t, "a floor of 0", g.st.Disk, g.st, api.OK)
	for _, s := range []string{"", "\x00", "\x01a\x01b"} {
		opens(t, "a floor of 0, and a snapshot's file", with(g.st.Disk, sure(snapName(0), s)), g.st, api.OK)
		d := armed(with(g.st.Disk, sure(snapName(0), s)), 0)
		opens(t, "a floor of 0, a snapshot's file and a fuse", d, alone(down(d)), api.ErrDown)
	}
}

// P14.1: a segment's file that is missing: the first, one between, the last.
func TestMissing(t *testing.T) {
	for _, g := range logs(t) {
		for i, s := range g.st.Segs {
			if i > 9 && i < len(g.st.Segs)-2 {
				continue
			}
			d := less(g.st.Disk, segName(s.Base))
			refused(t, "a segment's file is missing", d)
			refused(t, "a segment's file has another name", with(d, sure(segName(s.Base+1), the(g.st.Disk, segName(s.Base)).Data)))
			refused(t, "a segment's file has a snapshot's name", with(d, sure(snapName(s.Base), the(g.st.Disk, segName(s.Base)).Data)))
		}
	}
}

// inner: a log of four segments, of two records each, the last one of three; all of it is sure.
func inner(t *testing.T) log {
	t.Helper()
	g := empty(t)
	for i := range 9 {
		seg := 21
		if i > 6 {
			seg = plenty
		}
		g = g.put(t, api.Rec{At: i, Time: 7, Data: strings.Repeat("k", 3+i)}, seg)
	}
	if man := store.Man(g.st); !slices.Equal(man.Segs, []int{0, 2, 4, 6}) {
		t.Fatalf("there are other segments: %s", show(g.st))
	}
	return g.synced(t)
}

// P14.1: a segment that isn't the last must be whole: cut at each place, longer, with a bit turned anywhere.
func TestInnerWhole(t *testing.T) {
	g := inner(t)
	opens(t, "whole", g.st.Disk, g.st, api.OK)
	for i, s := range g.st.Segs[:len(g.st.Segs)-1] {
		file := the(g.st.Disk, segName(s.Base))
		for n := range len(file.Data) {
			refused(t, fmt.Sprintf("segment %d cut at %d", i, n), with(g.st.Disk, sure(file.Name, file.Data[:n])))
			b := []byte(file.Data)
			b[n] ^= 1 << (n % 8)
			refused(t, fmt.Sprintf("segment %d turned at %d", i, n), with(g.st.Disk, sure(file.Name, string(b))))
		}
		for _, more := range []string{"\x00", "\x05", "a", file.Data[:7], framed("\x00\x00", 0), framed("x", 0)} {
			refused(t, fmt.Sprintf("segment %d and more", i), with(g.st.Disk, sure(file.Name, file.Data+more)))
		}
		refused(t, "ahead of its records others", with(g.st.Disk, sure(file.Name, "\x00"+file.Data)))
	}
}

// P14.1: a segment that isn't the last must have as many records as there are offsets up to the next one's Base.
func TestInnerCount(t *testing.T) {
	g := inner(t)
	for i, s := range g.st.Segs[:len(g.st.Segs)-1] {
		next := s.Base + s.N
		for n := range 6 {
			d := with(g.st.Disk, sure(segName(s.Base), rows(g.l[s.Base:s.Base+n]...)))
			if n == s.N {
				opens(t, "as many", d, g.st, api.OK)
				continue
			}
			refused(t, fmt.Sprintf("segment %d has %d records", i, n), d)
		}
		// Records of other offsets aren't its own.
		refused(t, "the next one's records", with(g.st.Disk, sure(segName(s.Base), rows(g.l[next:next+s.N]...))))
		twice := rows(g.l[s.Base], g.l[s.Base])
		refused(t, "a record twice", with(g.st.Disk, sure(segName(s.Base), twice)))
	}
	// The manifest tells other bases: one between, one less, one further on.
	for _, bases := range [][]int{{0, 1, 6}, {0, 3, 6}, {0, 1, 2, 4, 6}, {0, 2, 6}, {0, 4, 6}, {0, 7}} {
		d := with(g.st.Disk, sure("m", manBytes(api.Man{Ver: 5, Segs: bases})))
		for _, base := range bases {
			if !slices.Contains(disk.Names(d), segName(base)) {
				d = with(d, sure(segName(base), rows(g.l[base:base+1]...)))
			}
		}
		refused(t, fmt.Sprintf("bases of %v", bases), d)
	}
}

// P14.1: a manifest of fewer segments than there are, but in a row: the others go, elder ones too.
func TestFewerSegments(t *testing.T) {
	g := inner(t)
	s := g.st.Disk
	l := slices.Clone(g.st.Segs)
	for n := 1; n < len(l); n++ {
		st := api.Store{Ver: 9, Segs: l[:n], Next: l[n].Base, Sure: l[n].Base}
		m := sure("m", manBytes(store.Man(st)))
		st.Disk = files(append([]api.File{m}, s.Files[1:1+n]...)...)
		opens(t, "the first segments", with(s, m), st, api.OK)
		snap := table{}.with(g.l[:l[n].Base]...).bytes()
		st = api.Store{Ver: 9, Segs: l[n:], Next: 9, Sure: 9, Size: len(snap), Sum: crc.Sum(snap)}
		m = sure("m", manBytes(store.Man(st)))
		elder := sure(snapName(l[n-1].Base), "\x00")
		st.Disk = with(files(append([]api.File{m}, s.Files[1+n:]...)...), sure(snapName(l[n].Base), snap))
		opens(t, "the last segments", with(s, m, sure(snapName(l[n].Base), snap), elder), st, api.OK)
	}
}

// P14.1: the last segment, at each place at which it may be torn, and sure up to wherever: what is whole stays, and is sure.
func TestLastTorn(t *testing.T) {
	for _, g := range []log{empty(t).more(t, 4, plenty), inner(t), high(1000, table{}.with(rec(0))).more(t, 3, plenty)} {
		last := g.st.Segs[len(g.st.Segs)-1]
		file := the(g.st.Disk, segName(last.Base))
		for n := range len(file.Data) + 1 {
			want := g.st
			want.Segs = slices.Clone(g.st.Segs)
			seg := &want.Segs[len(want.Segs)-1]
			*seg = api.Seg{Base: last.Base}
			for _, r := range g.l[last.Base-g.base:] {
				if seg.Size+record.Size(r) > n {
					break
				}
				seg.N, seg.Size = seg.N+1, seg.Size+record.Size(r)
			}
			want.Next, want.Sure = last.Base+seg.N, last.Base+seg.N
			want.Disk = with(g.st.Disk, sure(file.Name, file.Data[:seg.Size]))
			for _, sureTo := range []int{0, n / 2, seg.Size, n} {
				opens(t, fmt.Sprintf("torn at %d", n), with(g.st.Disk, part(file.Name, file.Data[:n], sureTo)), want, api.OK)
			}
		}
	}
}

// P14.1: the last segment, damaged anywhere: what stands ahead of it stays, and nothing behind it.
func TestLastDamaged(t *testing.T) {
	g := inner(t)
	last := g.st.Segs[3]
	file := the(g.st.Disk, segName(last.Base))
	ends := []int{0}
	for _, r := range g.l[last.Base:] {
		ends = append(ends, ends[len(ends)-1]+record.Size(r))
	}
	want := func(n int) api.Store {
		st := g.st
		st.Segs = append(slices.Clone(g.st.Segs[:3]), api.Seg{Base: last.Base, N: n, Size: ends[n]})
		st.Next, st.Sure = last.Base+n, last.Base+n
		st.Disk = with(g.st.Disk, sure(file.Name, file.Data[:ends[n]]))
		return st
	}
	for n := range len(file.Data) {
		whole := 0
		for ends[whole+1] <= n {
			whole++
		}
		for bit := range 8 {
			b := []byte(file.Data)
			b[n] ^= 1 << bit
			opens(t, fmt.Sprintf("turned at %d", n), with(g.st.Disk, sure(file.Name, string(b))), want(whole), api.OK)
		}
	}
	a, b, c := rows(g.l[6]), rows(g.l[7]), rows(g.l[8])
	long := framed("\x06\x07"+strings.Repeat("x", api.MaxPayload+1), 0)
	for i, row := range []struct {
		s string
		n int
	}{
		{"", 0}, {b, 0}, {b + c, 0}, {a + a, 1}, {a + c, 1}, {a + c + b, 1}, {a + b + b, 2}, {a + b + c, 3}, {a + b + c + a, 3}, {rows(g.l[5]) + a + b, 0},
		{long, 0}, {framed("\x06", 0), 0}, {framed("\x06\x80", 0), 0}, {a + framed("x", 0) + b, 1}, {a + "\x00" + b, 1}, {strings.Repeat("\x00", 50), 0}, {strings.Repeat("\xff", 50), 0}, {manBytes(store.Man(g.st)), 0},
	} {
		st := want(row.n)
		if row.s == "" {
			st = want(0)
		}
		opens(t, fmt.Sprintf("another last segment, %d", i), with(g.st.Disk, sure(file.Name, row.s)), st, api.OK)
	}
}

// P14.1: a last segment at the greatest offsets: the record of MaxOffset is told as any other one, and none behind it may be.
func TestLastEnd(t *testing.T) {
	snap := "\x01a\x01b"
	for _, base := range []int{api.MaxOffset - 2, api.MaxOffset - 1, api.MaxOffset} {
		l := recs(base, api.MaxOffset+1)
		for n := range len(l) + 1 {
			st := api.Store{Ver: api.MaxOffset, Segs: []api.Seg{{Base: base, N: n, Size: len(rows(l[:n]...))}}, Next: base + n, Sure: base + n, Size: 4, Sum: crc.Sum(snap)}
			m := sure("m", manBytes(api.Man{Ver: st.Ver, Segs: []int{base}, Size: 4, Sum: st.Sum}))
			st.Disk = files(m, sure(segName(base), rows(l[:n]...)), sure(snapName(base), snap))
			opens(t, "the greatest offsets", st.Disk, st, api.OK)
			over := framed(number(base+n)+number(1)+"x", 1)
			opens(t, "the greatest offsets, and more", with(st.Disk, sure(segName(base), rows(l[:n]...)+over)), st, api.OK)
		}
		over := framed(number(api.MaxOffset+1)+number(1)+"x", 0)
		got, err := Open(files(sure("m", manBytes(api.Man{Ver: 1, Segs: []int{base}, Size: 4, Sum: crc.Sum(snap)})), sure(segName(base), rows(l...)+over), sure(snapName(base), snap)))
		if err != api.OK || got.Next != api.MaxOffset+1 || got.Segs[0].N != len(l) {
			t.Errorf("behind the last offset: %d, %s", err, show(got))
		}
	}
}

// P14.1: a manifest of as many segments as may be, and a last segment of very many records.
func TestMany(t *testing.T) {
	g := empty(t).more(t, api.MaxSegs, 1).synced(t)
	if len(g.st.Segs) != api.MaxSegs {
		t.Fatalf("%d segments", len(g.st.Segs))
	}
	opens(t, "all segments", g.st.Disk, g.st, api.OK)
	l := recs(0, 20000)
	st := api.Store{Ver: 1, Segs: []api.Seg{{N: len(l), Size: len(rows(l...))}}, Next: len(l), Sure: len(l)}
	st.Disk = files(sure("m", manBytes(api.Man{Ver: 1, Segs: []int{0}})), sure(segName(0), rows(l...)))
	opens(t, "very many records", st.Disk, st, api.OK)
	opens(t, "very many records, and a torn one", with(st.Disk, sure(segName(0), rows(l...)+rows(rec(len(l)))[:7])), st, api.OK)
}

// P14.1: files that the manifest doesn't name go, in the order of their names; then the last segment is cut off, then made sure: how far the disk came, wherever a fuse goes.
func TestOpenFuse(t *testing.T) {
	l := recs(4, 9)
	a, b, snap := rows(l[:2]...), rows(l[2:4]...), "\x01a\x01b"
	torn := b + rows(l[4])[:3]
	st := api.Store{Ver: 4, Segs: []api.Seg{{Base: 4, N: 2, Size: len(a)}, {Base: 6, N: 2, Size: len(b)}}, Next: 8, Sure: 8, Size: 4, Sum: crc.Sum(snap)}
	m := sure("m", manBytes(store.Man(st)))
	s4, t4 := sure(segName(4), a), sure(snapName(4), snap)
	whole, cut, ragged := sure(segName(6), b), part(segName(6), b, 5), part(segName(6), torn, 5)
	st.Disk = files(m, s4, whole, t4)
	first, n, s0, s2 := sure("a", ""), part("n", "new", 1), sure(segName(0), rows(recs(0, 2)...)), sure(segName(2), rows(recs(2, 4)...))
	s8, t2, t8, z := sure(segName(8), ""), sure(snapName(2), "\x00"), part(snapName(8), "\x00", 0), sure("z", "z")
	all := files(first, m, n, s0, s2, s4, ragged, s8, t2, t4, t8, z)
	steps := []api.Disk{
		all,
		files(m, n, s0, s2, s4, ragged, s8, t2, t4, t8, z),
		files(m, s0, s2, s4, ragged, s8, t2, t4, t8, z),
		files(m, s2, s4, ragged, s8, t2, t4, t8, z),
		files(m, s4, ragged, s8, t2, t4, t8, z),
		files(m, s4, ragged, t2, t4, t8, z),
		files(m, s4, ragged, t4, t8, z),
		files(m, s4, ragged, t4, z),
		files(m, s4, ragged, t4),
		files(m, s4, cut, t4),
	}
	for left, d := range steps {
		opens(t, "a fuse", armed(all, left), alone(down(d)), api.ErrDown)
		opens(t, "a fuse, and no room", capped(armed(all, left), 1), alone(capped(down(d), 1)), api.ErrDown)
		opens(t, "no fuse", d, st, api.OK)
	}
	for _, more := range []int{0, 1, 9} {
		opens(t, "a fuse that holds", armed(all, len(steps)+more), withDisk(st, armed(st.Disk, more)), api.OK)
	}
	// No step wants room.
	opens(t, "no room", capped(all, 1), withDisk(st, capped(st.Disk, 1)), api.OK)
}

// P14.1: where nothing goes and nothing is cut off there is one step, that the last segment is made sure: also where it was.
func TestSyncFuse(t *testing.T) {
	for _, g := range logs(t) {
		want := g.st
		if len(want.Segs) > 0 {
			want = g.synced(t).st
		}
		opens(t, "as it was", g.st.Disk, want, api.OK)
		for _, d := range []api.Disk{g.st.Disk, want.Disk} {
			opens(t, "a fuse of 0", armed(d, 0), alone(down(d)), api.ErrDown)
			opens(t, "a fuse of 1", armed(d, 1), withDisk(want, armed(want.Disk, 0)), api.OK)
		}
	}
}

// P14.1: each of some files is none that the manifest names: it goes, and but for that all is as it was.
func TestOthers(t *testing.T) {
	g := empty(t).more(t, 20, 90).trimmed(t, 200, plenty).synced(t)
	floor, next, last := g.st.Segs[0].Base, g.st.Next, g.st.Segs[len(g.st.Segs)-1].Base
	names := []string{"n", "M", "mm", "m ", "\x00", "l", "z", "s", "t", strings.Repeat("x", api.MaxName), segName(floor)[:13], segName(floor) + "0", "S" + segName(floor)[1:], "u" + segName(floor)[1:],
		segName(0), segName(floor - 1), segName(floor + 1), segName(last + 1), segName(next), segName(next + 1), segName(api.MaxOffset), snapName(0), snapName(floor - 1), snapName(floor + 1), snapName(last), snapName(next), snapName(api.MaxOffset)}
	for _, name := range names {
		if slices.Contains(disk.Names(g.st.Disk), name) {
			continue
		}
		for _, f := range []api.File{sure(name, ""), part(name, "xyz", 1), sure(name, the(g.st.Disk, "m").Data)} {
			d := with(g.st.Disk, f)
			opens(t, "another file", d, g.st, api.OK)
			opens(t, "another file and a fuse", armed(d, 0), alone(down(d)), api.ErrDown)
			opens(t, "another file and a fuse", armed(d, 1), alone(down(g.st.Disk)), api.ErrDown)
			opens(t, "another file and a fuse", armed(d, 2), withDisk(g.st, armed(g.st.Disk, 0)), api.OK)
		}
	}
}

// messy: disks of all kinds: without m; with bytes of m that are none; of all kinds of logs, with a last segment that is torn, or damaged, and with files beside them.
func messy(t *testing.T) []api.Disk {
	t.Helper()
	first := newLog().Disk
	l := []api.Disk{{}, files(sure("n", "n")), files(sure("a", ""), part("n", the(first, "m").Data, 4), sure(segName(0), rows(recs(0, 3)...)), sure(snapName(9), "\x00")), files(sure("m", "")), with(first, sure("m", "x"))}
	for i, g := range logs(t) {
		d := g.st.Disk
		last := the(d, segName(g.st.Segs[len(g.st.Segs)-1].Base))
		b := []byte(last.Data)
		if len(b) > 0 {
			b[len(b)*i/40] ^= 4
		}
		others := with(d, sure("n", the(d, "m").Data), part(segName(g.st.Next+1), "s", 0), sure("x", ""), sure(snapName(g.st.Next+2), "t"))
		l = append(l, d, with(d, part(last.Name, last.Data[:len(last.Data)*3/4], len(last.Data)/2)), with(d, sure(last.Name, string(b))), others, with(others, part(last.Name, last.Data+"\x09rest", 0)), less(others, "m"))
		if floor := g.st.Segs[0].Base; floor > 0 {
			l = append(l, with(others, sure(segName(floor-1), ""), sure(snapName(floor-1), "t")), less(others, snapName(floor)))
		}
		if len(g.st.Segs) > 1 {
			l = append(l, less(others, segName(g.st.Segs[len(g.st.Segs)/2].Base)))
		}
	}
	return l
}

// P14.1: disks of all kinds, with all kinds of fuses and caps, by the chapter's words.
func TestOpen(t *testing.T) {
	told := map[api.Errno]int{}
	for _, d := range messy(t) {
		l := []api.Disk{d, capped(d, 1), capped(d, 12), capped(d, 13), capped(d, max(1, disk.Used(d))), down(d)}
		for left := range len(d.Files) + 9 {
			l = append(l, armed(d, left), capped(armed(d, left), 5))
		}
		for _, d := range l {
			want, wantErr := toldOpen(d)
			opens(t, "all kinds", d, want, wantErr)
			told[wantErr]++
		}
	}
	for _, err := range []api.Errno{api.OK, api.ErrFull, api.ErrForm, api.ErrDown} {
		if told[err] == 0 {
			t.Errorf("told: %v", told)
		}
	}
}

// twice fails the test unless what was opened is the same when it is opened again, also behind another crash, whatever that keeps, and whatever fuse went in between.
func twice(t *testing.T, what string, st api.Store) {
	t.Helper()
	opens(t, what+": again", st.Disk, st, api.OK)
	calm := st
	calm.Disk.Armed, calm.Disk.Left = false, 0
	for _, keep := range [][]int{nil, {plenty, plenty, plenty, plenty}} {
		opens(t, what+": again behind a crash", disk.Crash(st.Disk, keep), calm, api.OK)
		half, err := Open(armed(st.Disk, 0))
		same(t, what+": again with a fuse", half, err, alone(down(st.Disk)), api.ErrDown)
		opens(t, what+": again behind a fuse", disk.Crash(half.Disk, keep), calm, api.OK)
	}
}

// came: how many of the log's records came through on the disk, by its last segment's bytes, which are the log's records as far as they go.
func (g log) came(d api.Disk, base int) int {
	n := len(the(d, segName(base)).Data)
	next := base
	for next < g.base+len(g.l) && record.Size(g.l[next-g.base]) <= n {
		n -= record.Size(g.l[next-g.base])
		next++
	}
	return next
}

// behind: what is opened behind a crash of the log's disk; fails the test unless it has all records that were sure, and of the others the first ones, as many as came through.
func (g log) behind(t *testing.T, what string, keep []int) api.Store {
	t.Helper()
	d := disk.Crash(g.st.Disk, keep)
	st, err := Open(d)
	if err != api.OK || st.Next < g.st.Sure || st.Next > g.st.Next || st.Sure != st.Next || st.Ver != g.st.Ver || st.Size != g.st.Size || st.Sum != g.st.Sum {
		t.Fatalf("%s, crashed with %v, of %s: error %d, %s", what, keep, show(g.st), err, show(st))
	}
	n := len(g.st.Segs)
	if want := g.came(d, g.st.Segs[n-1].Base); st.Next != want || len(st.Segs) != n || !slices.Equal(st.Segs[:n-1], g.st.Segs[:n-1]) || st.Segs[n-1].Base != g.st.Segs[n-1].Base {
		t.Fatalf("%s, crashed with %v, of %s: %s, want Next %d", what, keep, show(g.st), show(st), want)
	}
	return st
}

// crashed: the log behind a crash and an Open; fails the test unless its records and its states are the same there, and it is the same when it is opened again.
func (g log) crashed(t *testing.T, what string, keep []int) log {
	t.Helper()
	st := g.behind(t, what, keep)
	holds(t, what+", crashed", st, g)
	twice(t, what+", crashed", st)
	g.st, g.l = st, slices.Clone(g.l[:st.Next-g.base])
	return g
}

// keeps: numbers of bytes that a crash keeps of files: none; all; of the last segment's each one up to a bound; others at random.
func keeps(d api.Disk, last string, r *rand.Rand) [][]int {
	l := [][]int{nil, slices.Repeat([]int{plenty}, len(d.Files)), slices.Repeat([]int{-1}, len(d.Files))}
	for i, f := range d.Files {
		open := len(f.Data) - f.Sure
		if f.Name == last {
			for n := 0; n <= open; n += 1 + open/25 {
				l = append(l, append(slices.Repeat([]int{r.Intn(2) * plenty}, i), n))
			}
		} else if open > 0 {
			l = append(l, append(make([]int, i), 1+r.Intn(open)))
		}
	}
	return l
}

// P14.2: whatever is done with logs of all kinds, at each fuse, and with little room, and whatever of what wasn't sure is kept.
func TestCrash(t *testing.T) {
	r := rand.New(rand.NewSource(14))
	told := map[api.Errno]int{}
	deeds := []func(st api.Store) (api.Store, api.Errno){
		func(st api.Store) (api.Store, api.Errno) { return store.Append(st, plenty, rec(st.Next)) },
		func(st api.Store) (api.Store, api.Errno) { return store.Append(st, 1, rec(st.Next)) },
		store.Sync,
		func(st api.Store) (api.Store, api.Errno) { return trim.Trim(st, 0, plenty) },
		func(st api.Store) (api.Store, api.Errno) { return trim.Trim(st, 200, plenty) },
	}
	for _, g := range logs(t) {
		// What was opened once holds as long as it is the same: many crashes come to the same.
		var seen []api.Store
		for i, deed := range deeds {
			used := disk.Used(g.st.Disk)
			disks := []api.Disk{g.st.Disk, capped(g.st.Disk, used+1), capped(g.st.Disk, used+20), capped(g.st.Disk, used+70)}
			for left := range 9 + min(len(g.st.Segs), 6) {
				disks = append(disks, armed(g.st.Disk, left), capped(armed(g.st.Disk, left), used+25))
			}
			for j, d := range disks {
				st, err := deed(withDisk(g.st, d))
				told[err]++
				one := g
				one.st = st
				if st.Next > g.st.Next {
					one.l = append(slices.Clone(g.l), rec(g.st.Next))
				}
				all := keeps(st.Disk, segName(st.Segs[len(st.Segs)-1].Base), r)
				if len(g.l) > 30 || j%3 > 0 {
					all = all[:3]
				}
				for _, keep := range all {
					what := fmt.Sprintf("deed %d", i)
					opened := one.behind(t, what, keep)
					if !slices.ContainsFunc(seen, func(st api.Store) bool { return alike(st, opened) }) {
						seen = append(seen, opened)
						one.crashed(t, what, keep)
					}
				}
			}
		}
	}
	for _, err := range []api.Errno{api.OK, api.ErrFull, api.ErrDown} {
		if told[err] == 0 {
			t.Errorf("told: %v", told)
		}
	}
}

// P14.2: wherever the power goes while a new log is made, or opened, what is opened behind it is the same as if it had stayed.
func TestCrashWithin(t *testing.T) {
	for _, d := range messy(t) {
		d = disk.Crash(d, []int{0, plenty, 1, plenty, 2, plenty, plenty})
		want, wantErr := Open(d)
		for left := range len(d.Files) + 9 {
			st, err := Open(armed(d, left))
			if err == api.OK {
				break
			}
			for _, keep := range [][]int{nil, {1}, {0, 2}, {3, 3, 3}, slices.Repeat([]int{plenty}, len(d.Files)+2)} {
				if wantErr == api.ErrForm {
					opens(t, "still none", disk.Crash(st.Disk, keep), alone(d), wantErr)
					continue
				}
				opens(t, fmt.Sprintf("behind a fuse of %d", left), disk.Crash(st.Disk, keep), want, wantErr)
			}
		}
		if wantErr == api.OK {
			twice(t, "opened", want)
		}
	}
}

// P14.2: a log that Create doesn't come to the end of is none: what is opened behind the crash is a new one.
func TestCrashCreate(t *testing.T) {
	for left := range 6 {
		for n := range 14 {
			st, _ := store.Create(armed(api.Disk{}, left))
			opens(t, "behind Create", disk.Crash(st.Disk, []int{n}), newLog(), api.OK)
			st, _ = store.Create(capped(armed(api.Disk{}, left), 10))
			d := disk.Crash(st.Disk, []int{n})
			d.Cap = 0
			opens(t, "behind Create without room", d, newLog(), api.OK)
		}
	}
}

// anyRec: a record of that offset, of any data.
func anyRec(at int, r *rand.Rand) api.Rec {
	data := []byte(strings.Repeat("v", r.Intn(9)*r.Intn(9)))
	for i := range data {
		data[i] = byte('a' + r.Intn(12))
	}
	return api.Rec{At: at, Time: r.Intn(9), Data: string(data)}
}

// opened: the log behind an Open of its disk as it stands, or behind a crash and as many Opens as the fuses let, each with a crash behind it.
func (g log) opened(t *testing.T, r *rand.Rand) log {
	t.Helper()
	if !g.st.Disk.Down && r.Intn(3) == 0 {
		st, err := Open(disk.Arm(g.st.Disk, -1))
		fine(t, st, err)
		if st.Next != g.st.Next || st.Ver != g.st.Ver {
			t.Fatalf("opened as it stands %s is %s", show(g.st), show(st))
		}
		holds(t, "opened as it stands", st, g)
		g.st = st
		return g
	}
	all := keeps(g.st.Disk, segName(g.st.Segs[len(g.st.Segs)-1].Base), r)
	keep := all[r.Intn(len(all))]
	was := g
	g = g.crashed(t, "a history", keep)
	d := disk.Crash(was.st.Disk, keep)
	for left := range r.Intn(4) {
		st, err := Open(armed(d, left))
		if err != api.OK {
			d = disk.Crash(st.Disk, []int{r.Intn(3), r.Intn(3)})
		}
	}
	opens(t, "a history, behind fuses within Open", d, g.st, api.OK)
	return g
}

// next: the log behind one more deed.
func (g log) next(t *testing.T, r *rand.Rand) (log, api.Errno) {
	t.Helper()
	st, err := g.st, api.OK
	switch r.Intn(14) {
	case 0, 1:
		st, err = store.Sync(st)
	case 2, 3:
		st.Disk = disk.Arm(st.Disk, r.Intn(30)-8)
	case 4:
		st.Disk = disk.Limit(st.Disk, disk.Used(st.Disk)+r.Intn(200)-50)
	case 5:
		st.Disk = disk.Limit(st.Disk, 0)
	case 6:
		return g.opened(t, r), api.OK
	case 7, 8:
		st, err = trim.Trim(st, r.Intn(500), r.Intn(60))
	default:
		for range 1 + r.Intn(8) {
			one := anyRec(st.Next, r)
			st, err = store.Append(st, []int{plenty, 200, 90, 20, 1}[r.Intn(5)], one)
			if err == api.OK {
				g.l = append(slices.Clone(g.l), one)
			}
		}
	}
	g.st = st
	return g, err
}

// P14.2: long histories of appends, syncs, trims, fuses, caps, crashes and opens; elder stores, of which others are made, stay as they were.
func TestHistory(t *testing.T) {
	told := map[api.Errno]int{}
	for seed := range 150 {
		r := rand.New(rand.NewSource(int64(seed)))
		g := empty(t)
		if seed%3 == 1 {
			g = high(300, table{}.with(api.Rec{Data: "av"}, api.Rec{Data: "pw"}, api.Rec{Data: "lx"}))
		}
		var elder, was []api.Store
		for range 120 {
			elder, was = append(elder, g.st), append(was, deep(g.st))
			next, err := g.next(t, r)
			told[err]++
			if g = next; g.st.Disk.Down {
				g = g.opened(t, r)
			}
		}
		for i := range elder {
			still(t, "a later call", elder[i], was[i])
		}
	}
	for _, err := range []api.Errno{api.OK, api.ErrFull, api.ErrDown} {
		if told[err] == 0 {
			t.Errorf("told: %v", told)
		}
	}
}

// roomyDisk: the disk in a list with spare room, in which there are others.
func roomyDisk(d api.Disk) api.Disk {
	l := append(slices.Clone(d.Files), sure("spare", "s"), sure("room", "r"), sure("more", ""), sure("m", "m"))
	d.Files = l[:len(d.Files)]
	return d
}

// deep: the store with all its lists' room, of which nothing is shared.
func deep(st api.Store) api.Store {
	st.Disk.Files = slices.Clone(st.Disk.Files[:cap(st.Disk.Files)])
	st.Segs = slices.Clone(st.Segs[:cap(st.Segs)])
	return st
}

// still fails the test unless the store, and its lists' spare room, is as it was.
func still(t *testing.T, what string, st, was api.Store) {
	t.Helper()
	if now := deep(st); !alike(now, was) {
		t.Fatalf("%s changed what was told, or handed in: %s\nwas %s", what, show(now), show(was))
	}
}

// P14.1: what is handed in stays as it was, its spare room too; and so does a store of which later ones are made.
func TestHandedIn(t *testing.T) {
	for _, d := range messy(t) {
		for left := -1; left < 8; left++ {
			d := roomyDisk(disk.Arm(d, left))
			was := deep(alone(d))
			st, err := Open(d)
			still(t, "Open", alone(d), was)
			if err != api.OK {
				Open(disk.Crash(st.Disk, nil))
				still(t, "Open behind a crash", alone(d), was)
				continue
			}
			st.Disk = disk.Arm(st.Disk, -1)
			told := deep(st)
			one, _ := store.Append(st, plenty, rec(st.Next))
			oneWas := deep(one)
			two, _ := store.Append(st, 1, api.Rec{At: st.Next, Data: "other"})
			store.Append(one, plenty, rec(one.Next))
			store.Append(two, 1, rec(two.Next))
			store.Sync(st)
			store.Sync(one)
			trim.Trim(st, 0, 0)
			trim.Trim(two, 0, 0)
			Open(st.Disk)
			Open(one.Disk)
			Open(disk.Crash(two.Disk, nil))
			still(t, "a later call", st, told)
			still(t, "a later call", one, oneWas)
			still(t, "a later call", alone(d), was)
		}
	}
}

// P14.1, P14.2: what was opened goes on as any store: records behind it are read, trimmed, and opened again.
func TestGoesOn(t *testing.T) {
	for _, g := range logs(t) {
		if g.st.Next > api.MaxOffset-30 || len(g.st.Segs) == api.MaxSegs {
			continue
		}
		g = g.crashed(t, "ahead", nil).more(t, 20, 100)
		holds(t, "appended behind it", g.st, g)
		g = g.crashed(t, "behind", []int{0, 0, 0, 3}).more(t, 5, 100).trimmed(t, 0, plenty)
		holds(t, "trimmed behind it", g.st, g)
		g.crashed(t, "at last", nil)
	}
}

// Of disks that may not be nothing is promised, but the call ends.
func TestNotAsked(t *testing.T) {
	m := the(newLog().Disk, "m")
	for _, d := range []api.Disk{
		files(sure("z", ""), m, sure("a", "")), files(m, m), files(sure(segName(0), ""), m), files(sure("", "")), files(m, sure(segName(0), ""), sure("", "")),
		files(sure(strings.Repeat("x", api.MaxName+1), "")), files(part("m", m.Data, -1), part(segName(0), "x", -1)), files(part("m", m.Data, 99), part(segName(0), "x", 99)),
		capped(newLog().Disk, -1), armed(newLog().Disk, -1), armed(api.Disk{}, math.MinInt), capped(api.Disk{}, math.MinInt),
	} {
		Open(d)
	}
}

// The same again answers the same, whatever was asked between.
func TestNothingKept(t *testing.T) {
	l := messy(t)
	var told []api.Store
	var errs []api.Errno
	for _, d := range l {
		st, err := Open(d)
		told, errs = append(told, st), append(errs, err)
	}
	for i := len(l) - 1; i >= 0; i-- {
		opens(t, "again", l[i], told[i], errs[i])
	}
}
