package install

import (
	"encoding/binary"
	"fmt"
	"hash/crc32"
	"math"
	"math/rand"
	"slices"
	"strings"
	"testing"

	"wagoner/api"
	"wagoner/disk"
	"wagoner/manifest"
	"wagoner/record"
	"wagoner/reopen"
	"wagoner/store"
	"wagoner/trim"
)

// plenty is a keep, or a count, of which nothing is too much; a seg that no segment's bytes reach; and more bytes than a file has.
const plenty = math.MaxInt

// rec: a record of that offset: of seven keys one is set, or goes, or nothing is.
func rec(at int) api.Rec {
	r := api.Rec{At: at, Time: at * 3 % 1000}
	switch {
	case at%11 == 10:
	case at%5 == 4:
		r.Data = string("abcdefg"[at/5%7])
	default:
		r.Data = string("abcdefg"[at*3%7]) + strings.Repeat(string(rune('0'+at%10)), 1+at*7%(api.MaxPayload-1))
	}
	return r
}

// rows: the frames of records, one behind the other.
func rows(l ...api.Rec) string {
	s, err := record.Row(l)
	if err != api.OK {
		panic("no records")
	}
	return s
}

// segName, snapName: a segment's name, a snapshot's, by the words of chapter 7.
func segName(base int) string  { return fmt.Sprintf("s%013d", base) }
func snapName(base int) string { return fmt.Sprintf("t%013d", base) }

// number: the bytes of n, by the words of chapter 1.
func number(n int) string { return string(binary.AppendUvarint(nil, uint64(n))) }

// sum: the sum of bytes, by the words of chapter 2.
func sum(s string) uint32 { return crc32.Checksum([]byte(s), crc32.MakeTable(crc32.Castagnoli)) }

// manBytes: a manifest's bytes, by the words of chapters 10 and 3.
func manBytes(m api.Man) string {
	body := number(m.Ver) + number(len(m.Segs))
	for _, base := range m.Segs {
		body += number(base)
	}
	body += number(m.Size) + string(binary.LittleEndian.AppendUint32(nil, m.Sum))
	n := number(len(body))
	return n + string(binary.LittleEndian.AppendUint32(nil, sum(n+body))) + body
}

// table is a state, by its keys: their values, of no bytes where there is none.
type table [256]string

// with: the state behind the records.
func (t table) with(l ...api.Rec) table {
	for _, r := range l {
		if r.Data != "" {
			t[r.Data[0]] = r.Data[1:]
		}
	}
	return t
}

// pairs: the state's pairs.
func (t table) pairs() []api.Pair {
	var l []api.Pair
	for key, val := range t {
		if val != "" {
			l = append(l, api.Pair{Key: byte(key), Val: val})
		}
	}
	return l
}

// bytes: the state's bytes, by the words of chapter 5.
func (t table) bytes() string {
	l := t.pairs()
	s := number(len(l))
	for _, p := range l {
		s += pairBytes(p.Key, p.Val)
	}
	return s
}

// pairBytes: the bytes of a pair, be it one or not.
func pairBytes(key byte, val string) string { return string([]byte{key}) + number(len(val)) + val }

// one, some, wide: states of a pair, of some, of all keys that there are, with values as long as may be.
func one() table  { return table{}.with(api.Rec{Data: "k1"}) }
func some() table { return table{}.with(rec(0), rec(1), rec(2), rec(5), rec(8)) }
func wide() table {
	var s table
	for i := range s {
		s[i] = strings.Repeat(string(rune('!'+i%90)), api.MaxPayload-1)
	}
	return s
}

// states: of no pair, of one, of some, of all; of values of one byte, and of as many as may be.
func states() []table {
	l := []table{{}, one(), some(), wide()}
	for _, key := range []byte{0, 1, 127, 128, 255} {
		for _, n := range []int{1, api.MaxPayload - 1} {
			l = append(l, table{}.with(api.Rec{Data: string([]byte{key}) + strings.Repeat("\x00", n)}))
		}
	}
	var short table
	for i := range short {
		short[i] = string([]byte{byte(i)})
	}
	return append(l, short)
}

// stateOf: the state whose bytes s is, by the words of chapter 5; false, if it is none's.
func stateOf(s string) (table, bool) {
	var t table
	if len(s) == 0 {
		return t, false
	}
	_, n := binary.Uvarint([]byte(s))
	last := -1
	for rest := s[max(n, 0):]; len(rest) >= 2; {
		key, size := int(rest[0]), int(rest[1])
		if key <= last || size < 1 || size > 63 || len(rest) < 2+size {
			return table{}, false
		}
		t[key], last, rest = rest[2:2+size], key, rest[2+size:]
	}
	return t, t.bytes() == s
}

// sure, part: a file all of whose bytes are sure, and one of whose bytes so many are.
func sure(name, data string) api.File             { return part(name, data, len(data)) }
func part(name, data string, n int) api.File      { return api.File{Name: name, Data: data, Sure: n} }
func files(l ...api.File) api.Disk                { return api.Disk{Files: l} }
func armed(d api.Disk, left int) api.Disk         { d.Armed, d.Left = true, left; return d }
func down(d api.Disk) api.Disk                    { d.Armed, d.Left, d.Down = true, 0, true; return d }
func capped(d api.Disk, n int) api.Disk           { d.Cap = n; return d }
func withDisk(st api.Store, d api.Disk) api.Store { st.Disk = d; return st }

// log is a store, and what it has, told apart from it: the state below its first records, and the records behind that one, from the offset base on.
type log struct {
	st    api.Store
	base  int
	below table
	l     []api.Rec
}

// at: the state below that offset.
func (g log) at(off int) table { return g.below.with(g.l[:off-g.base]...) }

// show: in words, in short.
func show(st api.Store) string {
	var l []string
	for _, f := range st.Disk.Files {
		l = append(l, fmt.Sprintf("%s: %d bytes, %d sure", f.Name, len(f.Data), f.Sure))
	}
	d := st.Disk
	return fmt.Sprintf("Ver %d Segs %v Next %d Sure %d Size %d Sum %d [%s] Cap %d Armed %v Left %d Down %v",
		st.Ver, st.Segs, st.Next, st.Sure, st.Size, st.Sum, strings.Join(l, "; "), d.Cap, d.Armed, d.Left, d.Down)
}

// alike: are both the same, in all fields?
func alike(a, b api.Store) bool {
	c, d := a.Disk, b.Disk
	disks := slices.Equal(c.Files, d.Files) && c.Cap == d.Cap && c.Armed == d.Armed && c.Left == d.Left && c.Down == d.Down
	return disks && a.Ver == b.Ver && slices.Equal(a.Segs, b.Segs) && a.Next == b.Next && a.Sure == b.Sure && a.Size == b.Size && a.Sum == b.Sum
}

// same fails the test unless that was told.
func same(t *testing.T, what string, got api.Store, err api.Errno, want api.Store, wantErr api.Errno) {
	t.Helper()
	if !alike(got, want) || err != wantErr {
		t.Fatalf("%s: error %d, %s\nwant %d, %s", what, err, show(got), wantErr, show(want))
	}
}

// fine fails the test unless that is OK; and answers the store.
func fine(t *testing.T, st api.Store, err api.Errno) api.Store {
	t.Helper()
	if err != api.OK {
		t.Fatalf("error %d of %s", err, show(st))
	}
	return st
}

// empty: a new log.
func empty(t *testing.T) log {
	t.Helper()
	st, err := store.Create(api.Disk{})
	return log{st: fine(t, st, err)}
}

// put: the log with that record more.
func (g log) put(t *testing.T, r api.Rec, seg int) log {
	t.Helper()
	st, err := store.Append(g.st, seg, r)
	g.st, g.l = fine(t, st, err), append(slices.Clone(g.l), r)
	return g
}

// more: the log with so many records more, each with that seg, none of them synced but by a roll.
func (g log) more(t *testing.T, n, seg int) log {
	t.Helper()
	for range n {
		g = g.put(t, rec(g.st.Next), seg)
	}
	return g
}

// synced: the log behind a Sync.
func (g log) synced(t *testing.T) log {
	t.Helper()
	st, err := store.Sync(g.st)
	g.st = fine(t, st, err)
	return g
}

// trimmed: the log behind a Trim.
func (g log) trimmed(t *testing.T, keep, count int) log {
	t.Helper()
	st, err := trim.Trim(g.st, keep, count)
	g.st = fine(t, st, err)
	return g
}

// placed: the log behind an Install.
func (g log) placed(t *testing.T, at int, s table) log {
	t.Helper()
	st, err := Install(g.st, at, s.bytes())
	return log{st: fine(t, st, err), base: at, below: s}
}

// rolledEmpty: the log with a last segment without records, as a roll leaves it ahead of an Append that has no room.
func (g log) rolledEmpty(t *testing.T) log {
	t.Helper()
	full := g.st
	full.Disk.Cap = disk.Used(full.Disk) + len(manBytes(store.Man(g.st))) + 8
	st, err := store.Append(full, 1, api.Rec{At: full.Next, Data: strings.Repeat("z", api.MaxPayload)})
	if err != api.ErrFull || len(st.Segs) != len(g.st.Segs)+1 || st.Segs[len(st.Segs)-1].N != 0 {
		t.Fatalf("no empty last segment: %d, %s", err, show(st))
	}
	st.Disk.Cap = 0
	g.st = st
	return g
}

// logs: new; of one segment and of many, with an empty last one; with a floor of 0 and above it, by a trim and by an install; near the last offset; synced and not.
func logs(t *testing.T) []log {
	t.Helper()
	three := empty(t).more(t, 9, 120)
	long := empty(t).more(t, 40, 150)
	twice := long.trimmed(t, 300, plenty).more(t, 30, 200)
	high := empty(t).placed(t, 1000, some())
	return []log{
		empty(t), empty(t).more(t, 1, plenty), empty(t).more(t, 9, plenty), empty(t).more(t, 9, plenty).synced(t), empty(t).more(t, 4, plenty).synced(t).more(t, 4, plenty),
		three, three.synced(t), three.rolledEmpty(t), three.synced(t).more(t, 1, plenty),
		long, long.synced(t), long.rolledEmpty(t), empty(t).more(t, 1, 1).rolledEmpty(t),
		long.trimmed(t, 300, plenty), long.trimmed(t, 0, plenty), long.trimmed(t, 0, plenty).more(t, 1, plenty),
		twice, twice.trimmed(t, 100, plenty), twice.trimmed(t, 0, 0).more(t, 20, 1), twice.rolledEmpty(t),
		empty(t).placed(t, 1, one()), high, high.more(t, 20, 90), high.more(t, 3, plenty).rolledEmpty(t), long.placed(t, 77, table{}).more(t, 12, 60), twice.placed(t, 5000, wide()).more(t, 30, 400),
		empty(t).placed(t, api.MaxOffset-9, one()).more(t, 8, 100), empty(t).more(t, api.MaxSegs, 1), empty(t).more(t, api.MaxSegs+20, 50).trimmed(t, 3000, plenty),
	}
}

// ats: offsets above the store's Next: the first, some, the last one that may be.
func ats(st api.Store) []int {
	var l []int
	for _, at := range []int{st.Next + 1, st.Next + 2, st.Next + 1000, api.MaxOffset - 1, api.MaxOffset} {
		if at > st.Next && at <= api.MaxOffset && !slices.Contains(l, at) {
			l = append(l, at)
		}
	}
	return l
}

// changed is a step on the disk: its kind, the file, what more it is told.
type changed struct{ kind, file, more string }

// in: the disk behind the change, by layer 6.
func (c changed) in(d api.Disk) (api.Disk, api.Errno) {
	switch c.kind {
	case "create":
		return disk.Create(d, c.file)
	case "append":
		return disk.Append(d, c.file, c.more)
	case "sync":
		return disk.Sync(d, c.file)
	case "rename":
		return disk.Rename(d, c.file, c.more)
	}
	return disk.Delete(d, c.file)
}

// inTurn: the disk behind the changes, up to the first that fails, and the error.
func inTurn(d api.Disk, l ...changed) (api.Disk, api.Errno) {
	for _, c := range l {
		next, err := c.in(d)
		if d = next; err != api.OK {
			return d, err
		}
	}
	return d, api.OK
}

// fullBehind: ErrFull, with the files gone in order, or the error of letting one go.
func fullBehind(d api.Disk, names ...string) (api.Disk, api.Errno) {
	for _, name := range names {
		next, err := disk.Delete(d, name)
		if d = next; err != api.OK {
			return d, err
		}
	}
	return d, api.ErrFull
}

// toldSwap: the disk behind a swap of the manifest, by the words of chapter 12.
func toldSwap(d api.Disk, man string) (api.Disk, api.Errno) {
	if slices.Contains(disk.Names(d), "n") {
		next, err := disk.Delete(d, "n")
		if d = next; err != api.OK {
			return d, err
		}
	}
	d, err := inTurn(d, changed{"create", "n", ""}, changed{"append", "n", man})
	switch err {
	case api.OK:
		return inTurn(d, changed{"sync", "n", ""}, changed{"rename", "n", "m"})
	case api.ErrFull:
		return fullBehind(d, "n")
	}
	return d, err
}

// toldPlace: the disk behind all but the last Deletes, by the chapter's words.
func toldPlace(d api.Disk, man api.Man, s string) (api.Disk, api.Errno) {
	snap, seg := snapName(man.Segs[0]), segName(man.Segs[0])
	d, err := inTurn(d, changed{"create", snap, ""}, changed{"append", snap, s})
	if err == api.ErrFull {
		return fullBehind(d, snap)
	}
	if err == api.OK {
		d, err = inTurn(d, changed{"sync", snap, ""}, changed{"create", seg, ""})
	}
	if err != api.OK {
		return d, err
	}
	d, err = toldSwap(d, manBytes(man))
	if err == api.ErrFull {
		return fullBehind(d, seg, snap)
	}
	return d, err
}

// toldInstall: what Install tells, by the chapter's words.
func toldInstall(st api.Store, at int, s string) (api.Store, api.Errno) {
	if _, ok := stateOf(s); !ok || at <= st.Next || at > 1<<40 {
		return st, api.ErrArg
	}
	man := api.Man{Ver: st.Ver + 1, Segs: []int{at}, Size: len(s), Sum: sum(s)}
	d, err := toldPlace(st.Disk, man, s)
	if err != api.OK {
		return withDisk(st, d), err
	}
	var gone []changed
	for _, seg := range st.Segs {
		gone = append(gone, changed{"delete", segName(seg.Base), ""})
	}
	if len(st.Segs) > 0 && st.Segs[0].Base > 0 {
		gone = append(gone, changed{"delete", snapName(st.Segs[0].Base), ""})
	}
	d, err = inTurn(d, gone...)
	return api.Store{Disk: d, Ver: man.Ver, Segs: []api.Seg{{Base: at}}, Next: at, Sure: at, Size: man.Size, Sum: man.Sum}, err
}

// holds fails the test unless the store has just the log's records from its floor on, up to its Next, and the same state below each offset that it has.
func holds(t *testing.T, what string, st api.Store, g log) {
	t.Helper()
	floor := store.Floor(st)
	s := g.at(floor)
	if want := s.bytes(); floor > 0 && trim.Snap(st) != want || floor == 0 && trim.Snap(st) != "" {
		t.Fatalf("%s: Snap of %s = %q, want %q", what, show(st), trim.Snap(st), want)
	}
	for off := floor; off <= st.Next; off++ {
		if got := trim.State(st, off); !slices.Equal(got, s.pairs()) {
			t.Fatalf("%s: State of %s at %d = %v, want %v", what, show(st), off, got, s.pairs())
		}
		if off == st.Next {
			break
		}
		want := g.l[off-g.base]
		if r, err := store.Read(st, off); r != want || err != api.OK {
			t.Fatalf("%s: Read of %d = %v, %d", what, off, r, err)
		}
		s = s.with(want)
	}
	if l := store.From(st, floor, plenty, plenty); !slices.Equal(l, g.l[floor-g.base:st.Sure-g.base]) {
		t.Fatalf("%s: From of %s = %d records", what, show(st), len(l))
	}
}

// placedAt fails the test unless the store is the snapshot, at that offset, alone, of the next version.
func placedAt(t *testing.T, what string, st, was api.Store, at int, s table) {
	t.Helper()
	snap := s.bytes()
	want := api.Store{Disk: st.Disk, Ver: was.Ver + 1, Segs: []api.Seg{{Base: at}}, Next: at, Sure: at, Size: len(snap), Sum: sum(snap)}
	if !alike(st, want) {
		t.Fatalf("%s at %d: %s", what, at, show(st))
	}
	if !slices.Equal(trim.State(st, at), s.pairs()) || trim.Snap(st) != snap || store.Floor(st) != at {
		t.Fatalf("%s at %d: the state below %s is another one", what, at, show(st))
	}
	for _, off := range []int{0, was.Next - 1, was.Next, at - 1} {
		if r, err := store.Read(st, off); off >= 0 && err != api.ErrTrim || off < 0 && err != api.ErrRange || r != (api.Rec{}) {
			t.Fatalf("%s at %d: Read of %d = %v, %d", what, at, off, r, err)
		}
	}
	for _, off := range []int{at, at + 1, -1} {
		if r, err := store.Read(st, off); err != api.ErrRange || r != (api.Rec{}) {
			t.Fatalf("%s at %d: Read of %d = %v, %d", what, at, off, r, err)
		}
	}
	for _, off := range []int{-1, 0, was.Next, at - 1, at, at + 1} {
		if l := store.From(st, off, plenty, plenty); len(l) > 0 {
			t.Fatalf("%s at %d: From of %d = %v", what, at, off, l)
		}
	}
}

// installed: the store that an install leaves on a disk without more files than its own.
func installed(ver, at int, snap string) api.Store {
	st := api.Store{Ver: ver, Segs: []api.Seg{{Base: at}}, Next: at, Sure: at, Size: len(snap), Sum: sum(snap)}
	man := manBytes(api.Man{Ver: ver, Segs: []int{at}, Size: len(snap), Sum: st.Sum})
	st.Disk = files(sure("m", man), sure(segName(at), ""), sure(snapName(at), snap))
	return st
}

// P15.1: the chapter's example: at 7, of a state of a pair.
func TestExample(t *testing.T) {
	snap := "\x01k\x012"
	st, err := Install(empty(t).st, 7, snap)
	same(t, "Install", st, err, installed(2, 7, snap), api.OK)
	if store.Floor(st) != 7 || st.Next != 7 || st.Sure != 7 || !slices.Equal(trim.State(st, 7), []api.Pair{{Key: 'k', Val: "2"}}) {
		t.Errorf("the floor is %d, the state %v, of %s", store.Floor(st), trim.State(st, 7), show(st))
	}
	if s := st.Disk.Files[1].Name + st.Disk.Files[2].Name; s != "s0000000000007t0000000000007" {
		t.Errorf("the files' names are %s", s)
	}
	g := log{st: st, base: 7, below: one().with(api.Rec{Data: "k2"})}.put(t, api.Rec{At: 7, Data: "a3"}, plenty).put(t, api.Rec{At: 8, Data: "k"}, 1).synced(t)
	holds(t, "behind it", g.st, g)
	if l := store.From(g.st, 7, 100, 9); len(l) != 2 || len(g.st.Segs) != 2 || !slices.Equal(trim.State(g.st, 9), []api.Pair{{Key: 'a', Val: "3"}}) {
		t.Errorf("behind it %v is read of %s", l, show(g.st))
	}
}

// P15.1: offsets below Next, at it, above MaxOffset: ErrArg, whatever the disk, which stays as it was; one above Next, and MaxOffset, may be.
func TestOffset(t *testing.T) {
	snap := some().bytes()
	for _, g := range logs(t) {
		next := g.st.Next
		for _, d := range []api.Disk{g.st.Disk, armed(g.st.Disk, 0), down(g.st.Disk), capped(g.st.Disk, 1)} {
			st := withDisk(g.st, d)
			for _, at := range []int{math.MinInt, math.MinInt + 1, -api.MaxOffset, -2, -1, 0, 1, next / 2, store.Floor(st), next - 1, next, api.MaxOffset + 1, api.MaxOffset + 2, math.MaxInt - 1, math.MaxInt} {
				if at > next && at <= api.MaxOffset {
					continue
				}
				got, err := Install(st, at, snap)
				same(t, fmt.Sprintf("Install at %d", at), got, err, st, api.ErrArg)
			}
		}
		for _, at := range ats(g.st) {
			got, err := Install(g.st, at, snap)
			placedAt(t, "Install", fine(t, got, err), g.st, at, some())
			same(t, "Install", got, err, installed(g.st.Ver+1, at, snap), api.OK)
			got, err = Install(withDisk(g.st, down(g.st.Disk)), at, snap)
			same(t, "Install without power", got, err, withDisk(g.st, down(g.st.Disk)), api.ErrDown)
		}
	}
}

// P15.1: a log that goes up to MaxOffset: no snapshot is above that.
func TestLastOffset(t *testing.T) {
	for _, g := range []log{empty(t).placed(t, api.MaxOffset, one()), empty(t).placed(t, api.MaxOffset-3, one()).more(t, 3, plenty)} {
		if g.st.Next != api.MaxOffset {
			t.Fatalf("it goes up to %d", g.st.Next)
		}
		for _, at := range []int{api.MaxOffset - 1, api.MaxOffset, api.MaxOffset + 1, math.MaxInt} {
			got, err := Install(g.st, at, "\x00")
			same(t, "Install behind the last offset", got, err, g.st, api.ErrArg)
		}
		got, err := store.Append(g.st, plenty, rec(api.MaxOffset))
		same(t, "Append behind the last offset", got, err, g.st, api.ErrEnd)
	}
	// The record of MaxOffset itself may stand in a file: Next is one above it then.
	g := empty(t).placed(t, api.MaxOffset-1, one())
	g.st.Disk.Files[1] = sure(segName(api.MaxOffset-1), rows(rec(api.MaxOffset-1), rec(api.MaxOffset)))
	st, err := reopen.Open(g.st.Disk)
	if fine(t, st, err).Next != api.MaxOffset+1 {
		t.Fatalf("opened it is %s", show(st))
	}
	for _, at := range []int{api.MaxOffset, api.MaxOffset + 1, api.MaxOffset + 2} {
		got, err := Install(st, at, "\x00")
		same(t, "Install behind a record of the last offset", got, err, st, api.ErrArg)
	}
}

// noStates: bytes that are no state's, each in one way.
func noStates() map[string]string {
	a, b, k := pairBytes('a', "1"), pairBytes('b', "2"), pairBytes('k', strings.Repeat("v", 63))
	l := map[string]string{
		"none": "", "a number alone": "\x01", "a byte behind no pairs": "\x00\x00", "a pair behind no pairs": "\x00" + a, "a byte behind": "\x01" + a + "\x00", "twice": "\x01" + a + "\x01" + a,
		"fewer pairs than there stand": "\x01" + a + b, "more pairs than there stand": "\x03" + a + b, "the same key twice": "\x02" + a + a, "the same key, another value": "\x02" + a + pairBytes('a', "2"),
		"falling keys": "\x02" + b + a, "falling at last": "\x03" + a + k + b, "a value of no bytes": "\x01" + pairBytes('a', ""), "a value of no bytes at last": "\x02" + a + pairBytes('b', ""),
		"a value of 64 bytes": "\x01" + pairBytes('a', strings.Repeat("v", 64)), "a value of 200 bytes": "\x01" + pairBytes('a', strings.Repeat("v", 200)), "a value that ends too early": "\x01a\x05vvvv", "a key alone": "\x01a", "a key at last": "\x02" + a + "b",
		"a count in two bytes": "\x81\x00" + a, "no pairs in two bytes": "\x80\x00", "a size in two bytes": "\x01a\x81\x001", "a count that ends too early": "\x80", "a count that is none": strings.Repeat("\xff", 10) + "\x01", "a great count": strings.Repeat("\xff", 8) + "\x7f", "a great size": "\x01a" + strings.Repeat("\xff", 8) + "\x7f",
		"records": rows(rec(0), rec(1)), "a manifest": manBytes(api.Man{Ver: 1, Segs: []int{0}}), "noughts": strings.Repeat("\x00", 40), "a text": "state", "very many bytes": strings.Repeat("\xff", api.MaxBody+1), "very many noughts": strings.Repeat("\x00", api.MaxBody),
	}
	full := wide().bytes()
	l["257 pairs"] = "\x81\x02" + full[2:] + pairBytes(255, "1")
	l["257 pairs, as many as 256"] = full + pairBytes(255, "1")
	l["255 pairs, as many as 256"] = full[:2] + full[2+65:]
	for what, s := range map[string]string{"of one": one().bytes(), "of some": some().bytes(), "of no pairs": "\x00"} {
		for i := range s {
			l[fmt.Sprintf("a state %s, cut at %d", what, i)] = s[:i]
		}
		l["a byte ahead of a state "+what] = "\x01" + s
	}
	l["a state of all, cut"] = full[:len(full)-1]
	return l
}

// P15.1: bytes that are no state's, in each way: ErrArg, whatever the disk, which stays as it was.
func TestNoState(t *testing.T) {
	for _, g := range []log{empty(t), empty(t).more(t, 9, 120), empty(t).more(t, 3, 1).placed(t, 20, some()).more(t, 4, 40)} {
		for what, s := range noStates() {
			if _, ok := stateOf(s); ok {
				t.Fatalf("%s: they are a state's", what)
			}
			for _, d := range []api.Disk{g.st.Disk, armed(g.st.Disk, 0), armed(g.st.Disk, 3), down(g.st.Disk), capped(g.st.Disk, 1)} {
				st := withDisk(g.st, d)
				for _, at := range []int{g.st.Next + 1, api.MaxOffset, g.st.Next, api.MaxOffset + 1} {
					got, err := Install(st, at, s)
					same(t, what, got, err, st, api.ErrArg)
				}
			}
		}
	}
}

// P15.1: a state's bytes with a bit turned anywhere: a state's, or none.
func TestTurned(t *testing.T) {
	st, kinds := empty(t).more(t, 3, 20).st, map[api.Errno]int{}
	for _, s := range []table{{}, one(), some()} {
		was := s.bytes()
		for i := range was {
			for bit := range 8 {
				b := []byte(was)
				b[i] ^= 1 << bit
				want, wantErr := toldInstall(st, 9, string(b))
				got, err := Install(st, 9, string(b))
				same(t, fmt.Sprintf("Install of %q", b), got, err, want, wantErr)
				kinds[err]++
			}
		}
	}
	if kinds[api.OK] == 0 || kinds[api.ErrArg] == 0 || len(kinds) != 2 {
		t.Errorf("told: %v", kinds)
	}
}

// P15.1, P15.2: states of all sizes, in place of logs of all kinds: Next, Sure and the floor are the offset, the state is the snapshot's, nothing is read.
func TestStates(t *testing.T) {
	for _, g := range logs(t) {
		for i, s := range states() {
			at := ats(g.st)[i%len(ats(g.st))]
			got, err := Install(g.st, at, s.bytes())
			same(t, "Install", got, err, installed(g.st.Ver+1, at, s.bytes()), api.OK)
			placedAt(t, "Install", got, g.st, at, s)
			placedAt(t, "Install, and no power behind it", withDisk(got, down(got.Disk)), g.st, at, s)
		}
	}
}

// three: a log of three segments: of the records 0 and 1, of 2 and 3, and of 4, that isn't sure; with its files.
func three(t *testing.T) (log, []api.File) {
	t.Helper()
	g := empty(t)
	for i, data := range []string{"k1", "a2", "k3", "a", "z5"} {
		g = g.put(t, api.Rec{At: i, Data: data}, 17)
	}
	man := manBytes(api.Man{Ver: 3, Segs: []int{0, 2, 4}})
	l := []api.File{sure("m", man), sure(segName(0), rows(g.l[:2]...)), sure(segName(2), rows(g.l[2:4]...)), part(segName(4), rows(g.l[4]), 0)}
	if !slices.Equal(g.st.Disk.Files, l) || g.st.Sure != 4 || g.st.Next != 5 {
		t.Fatalf("it is another log: %s", show(g.st))
	}
	return g, l
}

// fuses fails the test unless each fuse leaves the store that is told for it, the last one's with all done.
func fuses(t *testing.T, what string, st api.Store, at int, snap string, l ...api.Store) {
	t.Helper()
	for left, want := range l {
		got, err := Install(withDisk(st, armed(st.Disk, left)), at, snap)
		wantErr, more := api.ErrDown, down(want.Disk)
		if left == len(l)-1 {
			wantErr, more = api.OK, armed(want.Disk, 0)
		}
		same(t, fmt.Sprintf("%s with a fuse of %d", what, left), got, err, withDisk(want, more), wantErr)
	}
	got, err := Install(withDisk(st, armed(st.Disk, len(l)+5)), at, snap)
	want := l[len(l)-1]
	same(t, what+" with a fuse that holds", got, err, withDisk(want, armed(want.Disk, 6)), api.OK)
	got, err = Install(st, at, snap)
	same(t, what, got, err, want, api.OK)
}

// P15.1: an install whose every step is the one that fails for a fuse, with a floor of 0 and three segments: how far the disk and the store came.
func TestFuse(t *testing.T) {
	g, l := three(t)
	snap := "\x01k\x013"
	behind := installed(4, 9, snap)
	m, s9, t9 := behind.Disk.Files[0], behind.Disk.Files[1], behind.Disk.Files[2]
	man, old := l[:1], l[1:]
	ahead := func(l ...api.File) api.Store { return withDisk(g.st, files(l...)) }
	then := func(l ...api.File) api.Store { return withDisk(behind, files(l...)) }
	with := func(n []api.File, l ...api.File) []api.File { return slices.Concat(man, n, old, l) }
	fuses(t, "Install", g.st, 9, snap,
		ahead(with(nil)...),
		ahead(with(nil, sure(snapName(9), ""))...),
		ahead(with(nil, part(snapName(9), snap, 0))...),
		ahead(with(nil, t9)...),
		ahead(with(nil, s9, t9)...),
		ahead(with([]api.File{sure("n", "")}, s9, t9)...),
		ahead(with([]api.File{part("n", m.Data, 0)}, s9, t9)...),
		ahead(with([]api.File{sure("n", m.Data)}, s9, t9)...),
		then(m, old[0], old[1], old[2], s9, t9),
		then(m, old[1], old[2], s9, t9),
		then(m, old[2], s9, t9),
		then(m, s9, t9),
	)
}

// P15.1: the same with a floor above 0: the elder snapshot goes behind the segments' files.
func TestFuseHigh(t *testing.T) {
	g, _ := three(t)
	g = g.trimmed(t, 0, plenty).put(t, api.Rec{At: 5, Data: "q"}, 1)
	l := g.st.Disk.Files
	if len(l) != 4 || l[3] != sure(snapName(4), "\x01k\x013") || g.st.Ver != 5 || g.st.Sure != 5 || g.st.Next != 6 {
		t.Fatalf("it is another log: %s", show(g.st))
	}
	man, s4, s5, t4 := l[0], l[1], l[2], l[3]
	snap := "\x00"
	behind := installed(6, 7, snap)
	m, s7, t7 := behind.Disk.Files[0], behind.Disk.Files[1], behind.Disk.Files[2]
	ahead := func(l ...api.File) api.Store { return withDisk(g.st, files(l...)) }
	then := func(l ...api.File) api.Store { return withDisk(behind, files(l...)) }
	fuses(t, "Install above a floor", g.st, 7, snap,
		ahead(man, s4, s5, t4),
		ahead(man, s4, s5, t4, sure(snapName(7), "")),
		ahead(man, s4, s5, t4, part(snapName(7), snap, 0)),
		ahead(man, s4, s5, t4, t7),
		ahead(man, s4, s5, s7, t4, t7),
		ahead(man, sure("n", ""), s4, s5, s7, t4, t7),
		ahead(man, part("n", m.Data, 0), s4, s5, s7, t4, t7),
		ahead(man, sure("n", m.Data), s4, s5, s7, t4, t7),
		then(m, s4, s5, s7, t4, t7),
		then(m, s5, s7, t4, t7),
		then(m, s7, t4, t7),
		then(m, s7, t7),
	)
}

// P15.1: no room for the snapshot's bytes: its file goes again, and the Delete may fail; the store, and its disk, are as they were.
func TestFullAppend(t *testing.T) {
	g, l := three(t)
	snap := some().bytes()
	used := disk.Used(g.st.Disk)
	begun := files(append(slices.Clone(l), sure(snapName(6), ""))...)
	for _, room := range []int{1, used - 1, used, used + 1, used + len(snap) - 1} {
		st := withDisk(g.st, capped(g.st.Disk, room))
		got, err := Install(st, 6, snap)
		same(t, "Install without room", got, err, st, api.ErrFull)
		for left, want := range []api.Disk{down(g.st.Disk), down(begun), armed(g.st.Disk, 0), armed(g.st.Disk, 1), armed(g.st.Disk, 2)} {
			wantErr := api.ErrFull
			if want.Down {
				wantErr = api.ErrDown
			}
			got, err = Install(withDisk(st, armed(st.Disk, left)), 6, snap)
			same(t, fmt.Sprintf("Install without room with a fuse of %d", left), got, err, withDisk(st, capped(want, room)), wantErr)
			holds(t, "behind it", got, g)
		}
	}
}

// P15.1: no room for the manifest: n goes, then the segment's file, then the snapshot's, and each Delete may fail; with just enough room it is done.
func TestFullSwap(t *testing.T) {
	g, l := three(t)
	snap := "\x01k\x013"
	behind := installed(4, 9, snap)
	man, s9, t9 := behind.Disk.Files[0].Data, behind.Disk.Files[1], behind.Disk.Files[2]
	enough := disk.Used(g.st.Disk) + len(snap) + len(man)
	with := func(n []api.File, more ...api.File) api.Disk {
		return files(slices.Concat(l[:1], n, l[1:], more)...)
	}
	for _, room := range []int{enough - len(man), enough - len(man) + 1, enough - 5, enough - 1} {
		st := withDisk(g.st, capped(g.st.Disk, room))
		got, err := Install(st, 9, snap)
		same(t, "Install without room for the manifest", got, err, st, api.ErrFull)
		for left, want := range []api.Disk{
			down(with(nil)), down(with(nil, sure(snapName(9), ""))), down(with(nil, part(snapName(9), snap, 0))), down(with(nil, t9)), down(with(nil, s9, t9)),
			down(with([]api.File{sure("n", "")}, s9, t9)), down(with(nil, s9, t9)), down(with(nil, t9)), armed(g.st.Disk, 0), armed(g.st.Disk, 1),
		} {
			wantErr := api.ErrFull
			if want.Down {
				wantErr = api.ErrDown
			}
			got, err = Install(withDisk(st, armed(st.Disk, left)), 9, snap)
			same(t, fmt.Sprintf("Install without room for the manifest, with a fuse of %d", left), got, err, withDisk(st, capped(want, room)), wantErr)
			holds(t, "behind it", got, g)
		}
	}
	for _, room := range []int{enough, enough + 1} {
		got, err := Install(withDisk(g.st, capped(g.st.Disk, room)), 9, snap)
		same(t, "Install with just enough room", got, err, withDisk(behind, capped(behind.Disk, room)), api.OK)
	}
}

// lefts: numbers of changes that a fuse lets: each up to the first Deletes, some of these, and the last ones up to one more than there are.
func lefts(st api.Store) []int {
	n := len(st.Segs)
	var l []int
	for left := range 15 + n {
		if left < 12 || left > 7+n || left == 8+n/2 {
			l = append(l, left)
		}
	}
	return l
}

// broken: disks like that one whose fuse goes behind each number of changes, whose power is gone, that have room for so many bytes more, and all of that.
func broken(st api.Store, snap string) []api.Disk {
	d := st.Disk
	used, man := disk.Used(d), len(manBytes(api.Man{Ver: st.Ver + 1, Segs: []int{api.MaxOffset}, Size: len(snap), Sum: 1}))
	l := []api.Disk{d, down(d), capped(d, 1)}
	for _, left := range lefts(st) {
		l = append(l, armed(d, left))
		for _, room := range []int{0, len(snap) - 1, len(snap), len(snap) + man/2, len(snap) + man} {
			l = append(l, capped(armed(d, left), max(1, used+room)))
		}
	}
	for room := -9; room < len(snap)+man+12; room += 1 + len(snap)/30 {
		l = append(l, capped(d, max(1, used+room)))
	}
	return l
}

// P15.1, P15.2: snapshots in place of logs of all kinds, with all kinds of fuses and caps, by the chapter's words; beside ErrFull the store is as it was.
func TestInstall(t *testing.T) {
	told := map[api.Errno]int{}
	for i, g := range logs(t) {
		for j, at := range ats(g.st) {
			s := states()[(i+j)%5]
			snap := s.bytes()
			for k, d := range broken(g.st, snap) {
				if j > 0 && (j+k)%4 > 0 {
					continue
				}
				st := withDisk(g.st, d)
				want, wantErr := toldInstall(st, at, snap)
				got, err := Install(st, at, snap)
				same(t, fmt.Sprintf("Install at %d in %s", at, show(st)), got, err, want, wantErr)
				told[err]++
				if err == api.ErrFull {
					left := st
					left.Disk.Left = got.Disk.Left
					same(t, "beside ErrFull", got, err, left, api.ErrFull)
				}
				if err == api.OK || got.Ver != st.Ver {
					placedAt(t, "Install", got, st, at, s)
				} else if left := st; !alike(withDisk(got, left.Disk), left) {
					t.Fatalf("beside an error ahead of the swap the store isn't as it was: %s\nwas %s", show(got), show(st))
				}
			}
		}
	}
	if told[api.OK] == 0 || told[api.ErrFull] == 0 || told[api.ErrDown] == 0 || len(told) != 3 {
		t.Errorf("told: %v", told)
	}
}

// P15.2: what isn't the snapshot stays as long as it isn't swapped in: the log's records and its states are read beside each error.
func TestReadBeside(t *testing.T) {
	for _, g := range logs(t) {
		snap := some().bytes()
		for i, d := range broken(g.st, snap) {
			got, err := Install(withDisk(g.st, d), ats(g.st)[0], snap)
			if err != api.OK && got.Ver == g.st.Ver && i%11 == 0 {
				holds(t, "beside an error", got, g)
			}
		}
	}
}

// P15.2: records that are appended behind it are read, rolled, synced, trimmed; and a snapshot is installed in place of that again.
func TestGoesOn(t *testing.T) {
	for _, g := range logs(t) {
		for i, at := range ats(g.st) {
			s := states()[i%5]
			next := g.placed(t, at, s)
			holds(t, "behind it", next.st, next)
			n := min(20, api.MaxOffset-at)
			next = next.more(t, n, 100)
			holds(t, "with records", next.st, next)
			next = next.synced(t)
			holds(t, "synced", next.st, next)
			if first := next.trimmed(t, 0, plenty); n == 20 {
				holds(t, "trimmed", first.st, first)
				first = first.more(t, 3, plenty)
				holds(t, "trimmed, with records", first.st, first)
			}
			if n < 20 {
				continue
			}
			again := next.placed(t, next.st.Next+1+i, wide())
			placedAt(t, "Install again", again.st, next.st, again.base, wide())
			same(t, "Install again", again.st, api.OK, installed(next.st.Ver+1, again.base, wide().bytes()), api.OK)
			again = again.more(t, 5, 1)
			holds(t, "with records again", again.st, again)
		}
	}
}

// P15.2: an install that had no room is done when there is some.
func TestBehindFull(t *testing.T) {
	for _, g := range logs(t) {
		at, snap := ats(g.st)[0], wide().bytes()
		for _, room := range []int{0, len(snap) - 1, len(snap), len(snap) + 9} {
			full := withDisk(g.st, capped(g.st.Disk, max(1, disk.Used(g.st.Disk)+room)))
			got, err := Install(full, at, snap)
			same(t, "Install without room", got, err, full, api.ErrFull)
			got.Disk = disk.Limit(got.Disk, 0)
			again, err := Install(got, at, snap)
			same(t, "Install with room", again, err, installed(g.st.Ver+1, at, snap), api.OK)
		}
	}
}

// opens fails the test unless what is opened of the disk is that.
func opens(t *testing.T, what string, d api.Disk, want api.Store, wantErr api.Errno) {
	t.Helper()
	got, err := reopen.Open(d)
	same(t, what+", opened", got, err, want, wantErr)
}

// came: how many of the log's records come through on the disk, by its last segment's bytes, which are the log's records as far as they go.
func (g log) came(d api.Disk, base int) int {
	s, _ := disk.Read(d, segName(base))
	n, next := len(s), base
	for next < g.base+len(g.l) && record.Size(g.l[next-g.base]) <= n {
		n -= record.Size(g.l[next-g.base])
		next++
	}
	return next
}

// crashed: the log behind a crash and an Open; fails the test unless it has all records that were sure, of the others the first ones, as many as came through, and the same states; and is the same when it is opened again.
func (g log) crashed(t *testing.T, what string, keep []int) log {
	t.Helper()
	d := disk.Crash(g.st.Disk, keep)
	st, err := reopen.Open(d)
	fine(t, st, err)
	n := len(g.st.Segs)
	next := g.came(d, g.st.Segs[n-1].Base)
	if next < g.st.Sure || next > g.st.Next || st.Next != next || st.Sure != next || st.Ver != g.st.Ver || st.Size != g.st.Size || st.Sum != g.st.Sum {
		t.Fatalf("%s, crashed with %v, of %s: %s, want Next %d", what, keep, show(g.st), show(st), next)
	}
	if len(st.Segs) != n || !slices.Equal(st.Segs[:n-1], g.st.Segs[:n-1]) || st.Segs[n-1].Base != g.st.Segs[n-1].Base {
		t.Fatalf("%s, crashed with %v, of %s: the segments are others: %s", what, keep, show(g.st), show(st))
	}
	holds(t, what+", crashed", st, g)
	opens(t, what+", crashed", st.Disk, st, api.OK)
	g.st, g.l = st, slices.Clone(g.l[:st.Next-g.base])
	return g
}

// keeps: numbers of bytes that a crash keeps of files: none; all; others at random.
func keeps(d api.Disk, r *rand.Rand) [][]int {
	l := [][]int{nil, slices.Repeat([]int{plenty}, len(d.Files)), slices.Repeat([]int{-1}, len(d.Files))}
	for range 3 {
		some := make([]int, len(d.Files))
		for i, f := range d.Files {
			some[i] = r.Intn(len(f.Data) - f.Sure + 1)
		}
		l = append(l, some)
	}
	return l
}

// P15.2: behind a crash at whatever point what is opened is the log as it was, up to what was sure and as much as came through of the rest, or the snapshot.
func TestCrash(t *testing.T) {
	r := rand.New(rand.NewSource(15))
	old, fresh := 0, 0
	for i, g := range logs(t) {
		for j, at := range ats(g.st) {
			s := states()[(i+j)%5]
			snap := s.bytes()
			for k, d := range broken(g.st, snap) {
				if d.Down || j > 0 && k%5 > 0 {
					continue
				}
				st, err := Install(withDisk(g.st, d), at, snap)
				was := g
				was.st = st
				if st.Ver != g.st.Ver {
					was = log{st: st, base: at, below: s}
				}
				all := keeps(st.Disk, r)
				if len(g.l) > 15 || k > 20 {
					all = all[k%5 : k%5+1]
				}
				for _, keep := range all {
					got := was.crashed(t, fmt.Sprintf("Install at %d, error %d", at, err), keep)
					if got.base != at || len(got.l) > 0 {
						old++
						continue
					}
					fresh++
					want := installed(g.st.Ver+1, at, snap)
					same(t, "the snapshot behind a crash", got.st, api.OK, withDisk(want, capped(want.Disk, d.Cap)), api.OK)
				}
			}
		}
	}
	if old == 0 || fresh == 0 {
		t.Errorf("the log was opened %d times, the snapshot %d times", old, fresh)
	}
}

// P15.2: the power goes within an install, then within what opens it, again and again: it comes to the same; and the install is done behind it.
func TestCrashAgain(t *testing.T) {
	g, _ := three(t)
	g = g.synced(t)
	snap := some().bytes()
	for left := range 13 {
		st, _ := Install(withDisk(g.st, armed(g.st.Disk, left)), 8, snap)
		want, err := reopen.Open(disk.Crash(st.Disk, nil))
		if fine(t, want, err).Ver != st.Ver {
			t.Fatalf("behind a fuse of %d it is %s", left, show(want))
		}
		for opens := range 6 {
			half, _ := reopen.Open(armed(disk.Crash(st.Disk, nil), opens))
			got, err := reopen.Open(disk.Crash(half.Disk, []int{0, 3, 2, 1}))
			same(t, "opened behind a fuse within Open", got, err, want, api.OK)
		}
		if want.Ver == g.st.Ver {
			want, err = Install(want, 8, snap)
		}
		same(t, "at last", want, err, installed(4, 8, snap), api.OK)
	}
}

// P15.1: stores that others told beside an error: as far as they came, with the power gone, or without room.
func TestBesideOthers(t *testing.T) {
	snap := some().bytes()
	for _, g := range logs(t) {
		at := g.st.Next + 90
		if at > api.MaxOffset {
			continue
		}
		for left := range 9 {
			d := armed(g.st.Disk, left)
			one, _ := store.Append(withDisk(g.st, d), 1, rec(g.st.Next))
			two, _ := trim.Trim(withDisk(g.st, d), 0, plenty)
			three, _ := Install(withDisk(g.st, d), g.st.Next+1, "\x00")
			four, _ := store.Append(withDisk(g.st, capped(d, max(1, disk.Used(d)+20))), 1, rec(g.st.Next))
			for _, st := range []api.Store{one, two, three, four} {
				for _, st := range []api.Store{st, withDisk(st, disk.Limit(disk.Arm(st.Disk, -1), 0))} {
					want, wantErr := toldInstall(st, at, snap)
					got, err := Install(st, at, snap)
					same(t, fmt.Sprintf("Install in %s", show(st)), got, err, want, wantErr)
				}
			}
		}
	}
}

// P15.1: beside an error Create and Open tell a store that has its Disk alone, without segments: none goes, and files that it doesn't know stay.
func TestNoSegments(t *testing.T) {
	snap := "\x01k\x013"
	for _, d := range []api.Disk{{Cap: 5}, {Armed: true}, {Armed: true, Left: 1}, {Armed: true, Left: 4}, {Down: true}} {
		st, err := store.Create(d)
		if err == api.OK {
			t.Fatalf("Create: %s", show(st))
		}
		got, err := Install(st, 0, snap)
		same(t, "Install at 0 in none", got, err, st, api.ErrArg)
		for _, st := range []api.Store{st, withDisk(st, disk.Limit(disk.Arm(st.Disk, -1), 0))} {
			want, wantErr := toldInstall(st, 1, snap)
			got, err = Install(st, 1, snap)
			same(t, "Install in none", got, err, want, wantErr)
		}
	}
	first := sure(segName(0), "")
	st, _ := store.Create(api.Disk{Cap: 5})
	st.Disk = disk.Limit(st.Disk, 0)
	got, err := Install(st, 1, snap)
	want := installed(1, 1, snap)
	l := want.Disk.Files
	same(t, "Install in none with room", got, err, withDisk(want, files(l[0], first, l[1], l[2])), api.OK)
}

// P15.1: of a disk on which a file of such a name is there already, as one may be that is no log's: ErrThere, as far as it came.
func TestThere(t *testing.T) {
	snap := "\x01k\x013"
	for _, c := range []struct{ ahead, behind []api.File }{
		{[]api.File{sure(snapName(7), "t")}, []api.File{sure(snapName(7), "t")}},
		{[]api.File{sure(segName(7), "s")}, []api.File{sure(segName(7), "s"), sure(snapName(7), snap)}},
		{[]api.File{sure(segName(7), "s"), sure(snapName(7), "t")}, []api.File{sure(segName(7), "s"), sure(snapName(7), "t")}},
	} {
		m := sure("m", "none")
		st, err := reopen.Open(files(append([]api.File{m}, c.ahead...)...))
		if err != api.ErrForm {
			t.Fatalf("Open: %d, %s", err, show(st))
		}
		got, err := Install(st, 7, snap)
		same(t, "Install where there is such a file", got, err, withDisk(st, files(append([]api.File{m}, c.behind...)...)), api.ErrThere)
	}
	// An elder n goes: it is no manifest that counts.
	st, err := reopen.Open(files(sure("m", "none"), sure("n", "new")))
	if err != api.ErrForm {
		t.Fatalf("Open: %d, %s", err, show(st))
	}
	got, err := Install(st, 7, snap)
	same(t, "Install where there is an n", got, err, installed(1, 7, snap), api.OK)
}

// roomy: the store in lists with spare room, in which there are others.
func roomy(st api.Store) api.Store {
	l := append(slices.Clone(st.Disk.Files), sure("spare", "s"), sure("room", "r"), sure("more", ""))
	st.Disk.Files = l[:len(st.Disk.Files)]
	segs := append(slices.Clone(st.Segs), api.Seg{Base: -1, N: -2, Size: -3}, api.Seg{Base: -4}, api.Seg{Base: -5})
	st.Segs = segs[:len(st.Segs)]
	return st
}

// deep: the store with all its lists' room, of which nothing is shared.
func deep(st api.Store) api.Store {
	st.Disk.Files = slices.Clone(st.Disk.Files[:cap(st.Disk.Files)])
	st.Segs = slices.Clone(st.Segs[:cap(st.Segs)])
	return st
}

// still fails the test unless the store, and its lists' spare room, is as it was.
func still(t *testing.T, what string, st, was api.Store) {
	t.Helper()
	if now := deep(st); !alike(now, was) {
		t.Fatalf("%s changed what was told, or handed in: %s\nwas %s", what, show(now), show(was))
	}
}

// P15.1: what is handed in stays as it was, its spare room too, and so do stores of which later ones are made.
func TestHandedIn(t *testing.T) {
	for _, g := range logs(t) {
		st, snap, at := roomy(g.st), some().bytes(), ats(g.st)[0]
		for _, d := range broken(st, snap) {
			st := withDisk(st, d)
			was := deep(st)
			got, _ := Install(st, at, snap)
			gotWas := deep(got)
			other, _ := Install(st, at, "\x00")
			otherWas := deep(other)
			for _, s := range []api.Store{got, other} {
				s.Disk = disk.Limit(disk.Arm(s.Disk, -1), 0)
				next, _ := store.Append(s, plenty, rec(s.Next))
				next, _ = store.Append(next, 1, rec(next.Next))
				store.Append(s, plenty, api.Rec{At: s.Next, Data: "other"})
				store.Sync(s)
				trim.Trim(next, 0, plenty)
				Install(next, next.Next+5, "\x00")
				Install(s, s.Next+1, snap)
			}
			Install(st, at, "none's")
			Install(st, at-1, snap)
			still(t, "a call", st, was)
			still(t, "a later call", got, gotWas)
			still(t, "a later call", other, otherWas)
		}
	}
}

// anyRec: a record of that offset, of any data.
func anyRec(at int, r *rand.Rand) api.Rec {
	data := []byte(strings.Repeat("v", r.Intn(9)*r.Intn(9)))
	if len(data) > 0 {
		data[0] = byte('a' + r.Intn(12))
	}
	return api.Rec{At: at, Time: r.Intn(9), Data: string(data)}
}

// replaced: the log behind an Install of any state at an offset not far ahead, which is what the chapter's words say.
func (g log) replaced(t *testing.T, r *rand.Rand) (log, api.Errno) {
	t.Helper()
	s := states()[r.Intn(5)]
	for range r.Intn(20) {
		s = s.with(anyRec(0, r))
	}
	at, snap := g.st.Next-1+r.Intn(30), s.bytes()
	if r.Intn(9) == 0 {
		snap = snap[:r.Intn(len(snap))]
	}
	want, wantErr := toldInstall(g.st, at, snap)
	st, err := Install(g.st, at, snap)
	same(t, fmt.Sprintf("Install at %d in %s", at, show(g.st)), st, err, want, wantErr)
	if st.Ver != g.st.Ver {
		return log{st: st, base: at, below: s}, err
	}
	g.st = st
	return g, err
}

// next: the log behind one more deed.
func (g log) next(t *testing.T, r *rand.Rand) (log, api.Errno) {
	t.Helper()
	st, err := g.st, api.OK
	switch r.Intn(14) {
	case 0, 1:
		st, err = store.Sync(st)
	case 2:
		st.Disk = disk.Arm(st.Disk, r.Intn(30)-8)
	case 3:
		st.Disk = disk.Limit(st.Disk, disk.Used(st.Disk)+r.Intn(300)-50)
	case 4:
		st.Disk = disk.Limit(st.Disk, 0)
	case 5:
		st, err = trim.Trim(st, r.Intn(500), r.Intn(60))
	case 6, 7:
		return g.replaced(t, r)
	default:
		for range 1 + r.Intn(8) {
			one := anyRec(st.Next, r)
			st, err = store.Append(st, []int{plenty, 200, 90, 20, 1}[r.Intn(5)], one)
			if err == api.OK {
				g.l = append(slices.Clone(g.l), one)
			}
		}
	}
	g.st = st
	return g, err
}

// P15.1, P15.2: long histories of appends, syncs, trims, installs, fuses, caps, crashes and opens; elder stores, of which others are made, stay as they were.
func TestHistory(t *testing.T) {
	told := map[api.Errno]int{}
	for seed := range 50 {
		r := rand.New(rand.NewSource(int64(seed)))
		g := empty(t)
		var elder, was []api.Store
		for range 100 {
			elder, was = append(elder, g.st), append(was, deep(g.st))
			next, err := g.next(t, r)
			told[err]++
			holds(t, "a history", next.st, next)
			if g = next; g.st.Disk.Down || r.Intn(20) == 0 {
				all := keeps(g.st.Disk, r)
				g = g.crashed(t, "a history", all[r.Intn(len(all))])
			}
		}
		for i := range elder {
			still(t, "a later call", elder[i], was[i])
		}
	}
	for _, err := range []api.Errno{api.OK, api.ErrArg, api.ErrFull, api.ErrDown} {
		if told[err] == 0 {
			t.Errorf("told: %v", told)
		}
	}
}

// Of a store whose Ver is the greatest that a manifest may have nothing is promised, but the call ends.
func TestLastVersion(t *testing.T) {
	st := installed(api.MaxOffset, 5, "\x00")
	if s, _ := manifest.Put(store.Man(st)); s != st.Disk.Files[0].Data {
		t.Fatalf("the manifest's bytes are %q", s)
	}
	opens(t, "the last version", st.Disk, st, api.OK)
	Install(st, 9, "\x00")
	Install(withDisk(st, capped(st.Disk, 1)), 9, "\x00")
}

// The same again answers the same, whatever was asked between.
func TestNothingKept(t *testing.T) {
	l := logs(t)
	var told []api.Store
	for i, g := range l {
		st, _ := Install(withDisk(g.st, armed(g.st.Disk, i)), ats(g.st)[0], some().bytes())
		told = append(told, st)
	}
	for i := len(l) - 1; i >= 0; i-- {
		Install(l[i].st, api.MaxOffset, "\x00")
		st, err := Install(withDisk(l[i].st, armed(l[i].st.Disk, i)), ats(l[i].st)[0], some().bytes())
		same(t, "again", st, err, told[i], err)
	}
}
