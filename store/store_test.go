package store

import (
	"fmt"
	"math"
	"math/rand"
	"slices"
	"strings"
	"testing"

	"wagoner/api"
	"wagoner/crc"
	"wagoner/disk"
	"wagoner/manifest"
	"wagoner/record"
)

// never is a seg that no segment's bytes reach.
const never = math.MaxInt

// ends: numbers below all, around 0, above all.
var ends = []int{math.MinInt, math.MinInt + 1, -api.MaxOffset, -2, -1, 0, 1, api.MaxOffset, api.MaxOffset + 1, math.MaxInt - 1, math.MaxInt}

// rec: a record of that offset; its time and its data hang on it.
func rec(at int) api.Rec {
	return api.Rec{At: at, Time: at * 3 % 1000, Data: strings.Repeat(string(rune('a'+at%26)), at*7%(api.MaxPayload+1))}
}

// rows: the frames of records, one behind the other.
func rows(l ...api.Rec) string {
	s, err := record.Row(l)
	if err != api.OK {
		panic("no records")
	}
	return s
}

// segName, snapName: a segment's name, a snapshot's, by the words of chapter 7.
func segName(base int) string  { return fmt.Sprintf("s%013d", base) }
func snapName(base int) string { return fmt.Sprintf("t%013d", base) }

// manBytes: a manifest's bytes.
func manBytes(m api.Man) string {
	s, err := manifest.Put(m)
	if err != api.OK {
		panic("no manifest")
	}
	return s
}

// sure, part: a file all of whose bytes are sure, and one of whose bytes so many are.
func sure(name, data string) api.File             { return part(name, data, len(data)) }
func part(name, data string, n int) api.File      { return api.File{Name: name, Data: data, Sure: n} }
func files(l ...api.File) api.Disk                { return api.Disk{Files: l} }
func armed(d api.Disk, left int) api.Disk         { d.Armed, d.Left = true, left; return d }
func down(d api.Disk) api.Disk                    { d.Armed, d.Left, d.Down = true, 0, true; return d }
func capped(d api.Disk, n int) api.Disk           { d.Cap = n; return d }
func withDisk(st api.Store, d api.Disk) api.Store { st.Disk = d; return st }

// change is a step on the disk: its kind, the file, what more it is told.
type change struct{ kind, file, more string }

// in: the disk behind the change, by layer 6.
func (c change) in(d api.Disk) (api.Disk, api.Errno) {
	switch c.kind {
	case "create":
		return disk.Create(d, c.file)
	case "append":
		return disk.Append(d, c.file, c.more)
	case "sync":
		return disk.Sync(d, c.file)
	case "rename":
		return disk.Rename(d, c.file, c.more)
	}
	return disk.Delete(d, c.file)
}

// inTurn: the disk behind the changes, up to the first that fails; how many were done, and the error.
func inTurn(d api.Disk, l ...change) (api.Disk, int, api.Errno) {
	for i, c := range l {
		next, err := c.in(d)
		if d = next; err != api.OK {
			return d, i, err
		}
	}
	return d, len(l), api.OK
}

// undone: what becomes of ErrFull: the file is deleted.
func undone(d api.Disk, file string) (api.Disk, api.Errno) {
	d, _, err := inTurn(d, change{"delete", file, ""})
	if err == api.OK {
		err = api.ErrFull
	}
	return d, err
}

// toldSwap: what Swap tells, by the chapter's words.
func toldSwap(d api.Disk, m api.Man) (api.Disk, api.Errno) {
	l := []change{{"create", "n", ""}, {"append", "n", manBytes(m)}, {"sync", "n", ""}, {"rename", "n", "m"}}
	if slices.Contains(disk.Names(d), "n") {
		l = slices.Insert(l, 0, change{"delete", "n", ""})
	}
	d, _, err := inTurn(d, l...)
	if err == api.ErrFull {
		return undone(d, "n")
	}
	return d, err
}

// toldMan: what Man tells, by the chapter's words.
func toldMan(st api.Store) api.Man {
	m := api.Man{Ver: st.Ver, Segs: make([]int, len(st.Segs)), Size: st.Size, Sum: st.Sum}
	for i := range st.Segs {
		m.Segs[i] = st.Segs[i].Base
	}
	return m
}

// lastName: the name of the last segment's file.
func lastName(st api.Store) string {
	return segName(st.Segs[len(st.Segs)-1].Base)
}

// toldRoll: the store behind a roll, by the chapter's words.
func toldRoll(st api.Store) (api.Store, api.Errno) {
	if len(st.Segs) == api.MaxSegs {
		return st, api.ErrFull
	}
	d, done, err := inTurn(st.Disk, change{"sync", lastName(st), ""}, change{"create", segName(st.Next), ""})
	st.Disk = d
	if done > 0 {
		st.Sure = st.Next
	}
	if err != api.OK {
		return st, err
	}
	man := toldMan(st)
	man.Ver, man.Segs = man.Ver+1, append(man.Segs, st.Next)
	st.Disk, err = toldSwap(st.Disk, man)
	if err == api.ErrFull {
		st.Disk, err = undone(st.Disk, segName(st.Next))
	}
	if err == api.OK {
		st.Ver, st.Segs = man.Ver, slices.Concat(st.Segs, []api.Seg{{Base: st.Next}})
	}
	return st, err
}

// toldAppend: what Append tells, by the chapter's words.
func toldAppend(st api.Store, seg int, r api.Rec) (api.Store, api.Errno) {
	if r.At < 0 || r.At > api.MaxOffset || r.Time < 0 || r.Time > api.MaxOffset || len(r.Data) > api.MaxPayload || r.At != st.Next {
		return st, api.ErrArg
	}
	if st.Next == api.MaxOffset {
		return st, api.ErrEnd
	}
	if st.Segs[len(st.Segs)-1].Size >= seg {
		rolled, err := toldRoll(st)
		if st = rolled; err != api.OK {
			return st, err
		}
	}
	d, _, err := inTurn(st.Disk, change{"append", lastName(st), rows(r)})
	if st.Disk = d; err != api.OK {
		return st, err
	}
	last := st.Segs[len(st.Segs)-1]
	st.Segs = slices.Concat(st.Segs[:len(st.Segs)-1], []api.Seg{{Base: last.Base, N: last.N + 1, Size: last.Size + len(rows(r))}})
	st.Next++
	return st, api.OK
}

// toldSync: what Sync tells, by the chapter's words.
func toldSync(st api.Store) (api.Store, api.Errno) {
	d, done, err := inTurn(st.Disk, change{"sync", lastName(st), ""})
	if st.Disk = d; done > 0 {
		st.Sure = st.Next
	}
	return st, err
}

// alikeDisks, alike: are both the same, in all fields?
func alikeDisks(a, b api.Disk) bool {
	return slices.Equal(a.Files, b.Files) && a.Cap == b.Cap && a.Armed == b.Armed && a.Left == b.Left && a.Down == b.Down
}

func alike(a, b api.Store) bool {
	return alikeDisks(a.Disk, b.Disk) && a.Ver == b.Ver && slices.Equal(a.Segs, b.Segs) && a.Next == b.Next && a.Sure == b.Sure && a.Size == b.Size && a.Sum == b.Sum
}

// showDisk, show: in words, in short.
func showDisk(d api.Disk) string {
	var l []string
	for _, f := range d.Files {
		l = append(l, fmt.Sprintf("%s: %d bytes, %d sure", f.Name, len(f.Data), f.Sure))
	}
	return fmt.Sprintf("[%s] Cap %d Armed %v Left %d Down %v", strings.Join(l, "; "), d.Cap, d.Armed, d.Left, d.Down)
}

func show(st api.Store) string {
	return fmt.Sprintf("Ver %d Segs %v Next %d Sure %d Size %d Sum %d %s", st.Ver, st.Segs, st.Next, st.Sure, st.Size, st.Sum, showDisk(st.Disk))
}

// sameDisk, same fail the test unless that was told.
func sameDisk(t *testing.T, what string, got api.Disk, err api.Errno, want api.Disk, wantErr api.Errno) {
	t.Helper()
	if !alikeDisks(got, want) || err != wantErr {
		t.Fatalf("%s: error %d, %s\nwant %d, %s", what, err, showDisk(got), wantErr, showDisk(want))
	}
}

func same(t *testing.T, what string, got api.Store, err api.Errno, want api.Store, wantErr api.Errno) {
	t.Helper()
	if !alike(got, want) || err != wantErr {
		t.Fatalf("%s: error %d, %s\nwant %d, %s", what, err, show(got), wantErr, show(want))
	}
}

// fine fails the test unless that is OK; and answers the store.
func fine(t *testing.T, st api.Store, err api.Errno) api.Store {
	t.Helper()
	if err != api.OK {
		t.Fatalf("error %d of %s", err, show(st))
	}
	return st
}

// empty: a new log.
func empty(t *testing.T) api.Store {
	t.Helper()
	st, err := Create(api.Disk{})
	return fine(t, st, err)
}

// more: the store with so many records more, each with that seg, none of them synced but by a roll.
func more(t *testing.T, st api.Store, n, seg int) api.Store {
	t.Helper()
	for range n {
		next, err := Append(st, seg, rec(st.Next))
		st = fine(t, next, err)
	}
	return st
}

// syncedStore: the store behind a Sync.
func syncedStore(t *testing.T, st api.Store) api.Store {
	t.Helper()
	next, err := Sync(st)
	return fine(t, next, err)
}

// high: a store whose floor is above 0, as a snapshot that is put in place of a log leaves it.
func high(base int) api.Store {
	snap := "\x01k\x01v"
	st := api.Store{Ver: 3, Segs: []api.Seg{{Base: base}}, Next: base, Sure: base, Size: len(snap), Sum: crc.Sum(snap)}
	st.Disk = files(sure("m", manBytes(toldMan(st))), sure(segName(base), ""), sure(snapName(base), snap))
	return st
}

// trimmed: the store whose first k segments went, with a snapshot in their place.
func trimmed(t *testing.T, st api.Store, k int) api.Store {
	t.Helper()
	snap := "\x01k\x01v"
	base := st.Segs[k].Base
	st.Ver, st.Size, st.Sum = st.Ver+1, len(snap), crc.Sum(snap)
	l := []change{{"create", snapName(base), ""}, {"append", snapName(base), snap}, {"sync", snapName(base), ""}}
	for _, s := range st.Segs[:k] {
		l = append(l, change{"delete", segName(s.Base), ""})
	}
	st.Segs = slices.Clone(st.Segs[k:])
	d, _, err := inTurn(st.Disk, l...)
	st.Disk, _ = toldSwap(d, toldMan(st))
	return fine(t, st, err)
}

// stores: new; of some records, synced, in part, or not; in one segment and in many; whose floor is above 0; near the last offset.
func stores(t *testing.T) []api.Store {
	t.Helper()
	some := more(t, syncedStore(t, more(t, empty(t), 7, never)), 4, never)
	long := more(t, syncedStore(t, more(t, empty(t), 40, 150)), 2, never)
	return []api.Store{
		empty(t), more(t, empty(t), 1, never), more(t, empty(t), 9, never), some, syncedStore(t, some),
		more(t, empty(t), 5, 1), long, syncedStore(t, long),
		trimmed(t, long, 1), trimmed(t, syncedStore(t, long), len(long.Segs)-1),
		high(1), high(1000), more(t, high(1000), 20, 90), more(t, syncedStore(t, more(t, high(77), 3, never)), 2, never),
		more(t, high(api.MaxOffset-3), 2, never), more(t, high(api.MaxOffset-3), 2, 1),
		more(t, empty(t), api.MaxSegs-1, 1), more(t, empty(t), api.MaxSegs, 1),
	}
}

// broken: the store with disks whose fuse goes behind each number of changes, whose power is gone, that have room for so many bytes more, and all of that.
func broken(st api.Store) []api.Store {
	l := []api.Store{st, withDisk(st, down(st.Disk)), withDisk(st, capped(st.Disk, 1))}
	used := disk.Used(st.Disk)
	man := len(manBytes(toldMan(st)))
	for left := range 12 {
		l = append(l, withDisk(st, armed(st.Disk, left)))
		for _, room := range []int{0, 8, man, man + 2, man + 70, man + 100} {
			l = append(l, withDisk(st, capped(armed(st.Disk, left), used+room)))
		}
	}
	for room := range 140 {
		l = append(l, withDisk(st, capped(st.Disk, used+room)))
	}
	return l
}

// P12.1 to P12.3: the chapter's example.
func TestExample(t *testing.T) {
	st := syncedStore(t, more(t, empty(t), 3, never))
	if r, err := Read(st, 1); r != rec(1) || err != api.OK {
		t.Errorf("Read of 1 = %v, %d", r, err)
	}
	if l := From(st, 1, math.MaxInt, math.MaxInt); !slices.Equal(l, []api.Rec{rec(1), rec(2)}) {
		t.Errorf("From of 1 = %v", l)
	}
}

// P12.1: a new log: the file of 0, and the manifest that has it alone.
func TestCreate(t *testing.T) {
	man := "\x08\xdb\xcb\xa9\x22\x01\x01\x00\x00\x00\x00\x00\x00"
	want := api.Store{Ver: 1, Segs: []api.Seg{{}}, Disk: files(sure("m", man), sure("s0000000000000", ""))}
	st, err := Create(api.Disk{})
	same(t, "Create", st, err, want, api.OK)
	if m := Man(st); m.Ver != 1 || !slices.Equal(m.Segs, []int{0}) || m.Size != 0 || m.Sum != 0 {
		t.Errorf("Man = %v", m)
	}
	st, err = Create(api.Disk{Files: []api.File{}, Cap: len(man), Armed: true, Left: 9})
	same(t, "Create with just enough room", st, err, withDisk(want, capped(armed(want.Disk, 4), len(man))), api.OK)
	st, err = Create(api.Disk{Left: 2})
	same(t, "Create with a fuse that isn't armed", st, err, withDisk(want, api.Disk{Files: want.Disk.Files, Left: 2}), api.OK)
}

// P12.1: Create on a disk each of whose fuses lets another step be the one that fails; of the store there is the Disk alone.
func TestCreateFuse(t *testing.T) {
	man := manBytes(api.Man{Ver: 1, Segs: []int{0}})
	seg := sure(segName(0), "")
	for left, want := range []api.Disk{
		files(), files(seg), files(sure("n", ""), seg), files(part("n", man, 0), seg), files(sure("n", man), seg),
	} {
		st, err := Create(armed(api.Disk{}, left))
		same(t, fmt.Sprintf("Create with a fuse of %d", left), st, err, api.Store{Disk: down(want)}, api.ErrDown)
	}
	for left := 5; left < 9; left++ {
		st, err := Create(armed(api.Disk{}, left))
		same(t, fmt.Sprintf("Create with a fuse of %d", left), st, err, api.Store{Ver: 1, Segs: []api.Seg{{}}, Disk: armed(files(sure("m", man), seg), left-5)}, api.OK)
	}
	st, err := Create(api.Disk{Down: true})
	same(t, "Create without power", st, err, api.Store{Disk: api.Disk{Down: true}}, api.ErrDown)
	st, err = Create(api.Disk{Down: true, Armed: true, Left: 7, Cap: 3})
	same(t, "Create without power", st, err, api.Store{Disk: api.Disk{Down: true, Armed: true, Left: 7, Cap: 3}}, api.ErrDown)
}

// P12.1: Create without room for the manifest: n goes, the file of 0 stays; and the Delete may fail, too.
func TestCreateFull(t *testing.T) {
	seg := sure(segName(0), "")
	for room := 1; room < 13; room++ {
		st, err := Create(api.Disk{Cap: room})
		same(t, "Create without room", st, err, api.Store{Disk: capped(files(seg), room)}, api.ErrFull)
		for left, want := range []api.Disk{
			down(files()), down(files(seg)), down(files(sure("n", ""), seg)), armed(files(seg), 0), armed(files(seg), 1),
		} {
			wantErr := api.ErrFull
			if want.Down {
				wantErr = api.ErrDown
			}
			st, err = Create(armed(api.Disk{Cap: room}, left))
			same(t, fmt.Sprintf("Create without room, with a fuse of %d", left), st, err, api.Store{Disk: capped(want, room)}, wantErr)
		}
	}
}

// P12.1: the floor, and the manifest, of all kinds of stores.
func TestFloorMan(t *testing.T) {
	for _, st := range stores(t) {
		if Floor(st) != st.Segs[0].Base {
			t.Errorf("Floor of %s = %d", show(st), Floor(st))
		}
		m, want := Man(st), toldMan(st)
		if m.Ver != want.Ver || !slices.Equal(m.Segs, want.Segs) || m.Size != want.Size || m.Sum != want.Sum || !manifest.Right(m) {
			t.Errorf("Man of %s = %v", show(st), m)
		}
		s, err := disk.Read(st.Disk, "m")
		if err != api.OK || s != manBytes(m) {
			t.Errorf("of %s the file m isn't the manifest's bytes", show(st))
		}
	}
	if f := Floor(high(1000)); f != 1000 {
		t.Errorf("Floor = %d, want 1000", f)
	}
	if m := Man(high(1000)); m.Ver != 3 || !slices.Equal(m.Segs, []int{1000}) || m.Size != 4 || m.Sum != crc.Sum("\x01k\x01v") {
		t.Errorf("Man = %v", m)
	}
}

// swapDisks: with a file n and without one, with a file m and without one, with others beside them.
func swapDisks() []api.Disk {
	var l []api.Disk
	for _, n := range [][]api.File{nil, {sure("n", "")}, {part("n", "elder", 2)}, {sure("n", strings.Repeat("n", 300))}} {
		for _, m := range [][]api.File{nil, {sure("m", "")}, {part("m", "as it was", 3)}, {sure("m", "as it was")}} {
			for _, more := range [][]api.File{nil, {part("s1", "abc", 1), sure("t", "d")}} {
				l = append(l, api.Disk{Files: slices.Concat(m, n, more)})
			}
		}
	}
	return l
}

// P12.1: Swap step by step: what is there behind each fuse, where there is a file n, and where there is none.
func TestSwapFuse(t *testing.T) {
	m := api.Man{Ver: 2, Segs: []int{7, 9}, Size: 3, Sum: 4}
	man := manBytes(m)
	elder, other := part("m", "as it was", 3), part("s1", "abc", 1)
	free := []api.Disk{
		files(elder, other), files(elder, sure("n", ""), other), files(elder, part("n", man, 0), other), files(elder, sure("n", man), other), files(sure("m", man), other),
	}
	for left, want := range free {
		wantErr := api.OK
		if want = armed(want, 0); left < 4 {
			want, wantErr = down(want), api.ErrDown
		}
		got, err := Swap(armed(free[0], left), m)
		sameDisk(t, fmt.Sprintf("Swap with a fuse of %d", left), got, err, want, wantErr)
		got, err = Swap(armed(files(elder, part("n", "xyz", 1), other), left+1), m)
		sameDisk(t, fmt.Sprintf("Swap in place of n with a fuse of %d", left+1), got, err, want, wantErr)
	}
	there := files(elder, part("n", "xyz", 1), other)
	got, err := Swap(armed(there, 0), m)
	sameDisk(t, "Swap in place of n with a fuse of 0", got, err, down(there), api.ErrDown)
	got, err = Swap(there, m)
	sameDisk(t, "Swap in place of n", got, err, free[4], api.OK)
	got, err = Swap(files(), m)
	sameDisk(t, "Swap on a disk without files", got, err, files(sure("m", man)), api.OK)
	got, err = Swap(down(there), m)
	sameDisk(t, "Swap without power", got, err, down(there), api.ErrDown)
}

// P12.1: Swap without room for the manifest's bytes: n goes, m stays, and the Delete behind it may fail.
func TestSwapFull(t *testing.T) {
	m := api.Man{Ver: 2, Segs: []int{7, 9}, Size: 3, Sum: 4}
	man := manBytes(m)
	elder := part("m", "as it was", 3)
	short := 9 + len(man) - 1
	for _, room := range []int{1, 8, 9, short} {
		got, err := Swap(capped(files(elder), room), m)
		sameDisk(t, "Swap without room", got, err, capped(files(elder), room), api.ErrFull)
		for left, want := range []api.Disk{down(files(elder)), down(files(elder, sure("n", ""))), armed(files(elder), 0), armed(files(elder), 1)} {
			wantErr := api.ErrFull
			if want.Down {
				wantErr = api.ErrDown
			}
			got, err = Swap(capped(armed(files(elder), left), room), m)
			sameDisk(t, fmt.Sprintf("Swap without room, with a fuse of %d", left), got, err, capped(want, room), wantErr)
		}
	}
	got, err := Swap(capped(files(elder), short+1), m)
	sameDisk(t, "Swap with just enough room", got, err, capped(files(sure("m", man)), short+1), api.OK)
	// The file n that was there makes room ahead of it; it is gone for good, if that isn't enough.
	got, err = Swap(capped(files(elder, sure("n", man)), short+1), m)
	sameDisk(t, "Swap with just enough room in place of n", got, err, capped(files(sure("m", man)), short+1), api.OK)
	got, err = Swap(capped(files(elder, sure("n", man)), short), m)
	sameDisk(t, "Swap without room in place of n", got, err, capped(files(elder), short), api.ErrFull)
	got, err = Swap(capped(armed(files(elder, sure("n", man)), 2), short), m)
	sameDisk(t, "Swap without room in place of n, with a fuse of 2", got, err, down(capped(files(elder, sure("n", "")), short)), api.ErrDown)
}

// P12.1: Swap of all kinds of disks, fuses, caps and manifests, by the chapter's words.
func TestSwap(t *testing.T) {
	long := api.Man{Ver: api.MaxOffset, Size: api.MaxBody, Sum: math.MaxUint32}
	for i := range api.MaxSegs {
		long.Segs = append(long.Segs, api.MaxOffset-api.MaxSegs+1+i)
	}
	told := map[api.Errno]int{}
	for _, m := range []api.Man{{Ver: 1, Segs: []int{0}}, {Ver: 9, Segs: []int{5}, Size: 1}, {Ver: 300, Segs: []int{0, 1, 2}}, long} {
		for _, bare := range swapDisks() {
			used, size := disk.Used(bare), len(manBytes(m))
			for left := -1; left < 8; left++ {
				for _, room := range []int{0, 1, used, used + 1, used + size - 6, used + size - 1, used + size, used + size + 1, math.MaxInt} {
					d := disk.Arm(disk.Limit(bare, room), left)
					want, wantErr := toldSwap(d, m)
					got, err := Swap(d, m)
					sameDisk(t, fmt.Sprintf("Swap of %s", showDisk(d)), got, err, want, wantErr)
					told[err]++
				}
			}
		}
	}
	if told[api.OK] == 0 || told[api.ErrFull] == 0 || told[api.ErrDown] == 0 || len(told) != 3 {
		t.Errorf("told: %v", told)
	}
}

// P12.2: the first records of a log, one by one, and a Sync.
func TestAppend(t *testing.T) {
	st := empty(t)
	man := st.Disk.Files[0]
	l := []api.Rec{{At: 0, Time: 5, Data: "ab"}, {At: 1}, {At: 2, Time: api.MaxOffset, Data: strings.Repeat("x", api.MaxPayload)}}
	for i, r := range l {
		next, err := Append(st, never, r)
		data := rows(l[:i+1]...)
		want := api.Store{Ver: 1, Segs: []api.Seg{{Base: 0, N: i + 1, Size: len(data)}}, Next: i + 1, Disk: files(man, part(segName(0), data, 0))}
		same(t, "Append", next, err, want, api.OK)
		st = next
	}
	st, err := Sync(st)
	data := rows(l...)
	want := api.Store{Ver: 1, Segs: []api.Seg{{Base: 0, N: 3, Size: len(data)}}, Next: 3, Sure: 3, Disk: files(man, sure(segName(0), data))}
	same(t, "Sync", st, err, want, api.OK)
	st, err = Sync(st)
	same(t, "Sync again", st, err, want, api.OK)
	st, err = Append(st, never, api.Rec{At: 3})
	want.Disk = files(man, part(segName(0), data+rows(api.Rec{At: 3}), len(data)))
	want.Segs, want.Next = []api.Seg{{Base: 0, N: 4, Size: len(data) + 7}}, 4
	same(t, "Append behind Sync", st, err, want, api.OK)
}

// P12.2: records that may not be, or whose At isn't Next: ErrArg, ahead of all else; the store is as it was.
func TestAppendArg(t *testing.T) {
	for _, bare := range stores(t) {
		for _, st := range []api.Store{bare, withDisk(bare, armed(bare.Disk, 0)), withDisk(bare, down(bare.Disk)), withDisk(bare, capped(bare.Disk, 1))} {
			n := st.Next
			wrong := []api.Rec{
				{At: n, Time: -1}, {At: n, Time: api.MaxOffset + 1}, {At: n, Time: math.MinInt}, {At: n, Time: math.MaxInt},
				{At: n, Data: strings.Repeat("x", api.MaxPayload+1)}, {At: n, Data: strings.Repeat("x", 1000)},
				{At: n - 1}, {At: n + 1}, {At: n - 2}, {At: -n - 1}, {At: n + 1<<32},
			}
			for _, at := range ends {
				if at != n {
					wrong = append(wrong, api.Rec{At: at})
				}
			}
			for _, r := range wrong {
				for _, seg := range []int{math.MinInt, 0, 1, never} {
					got, err := Append(st, seg, r)
					same(t, fmt.Sprintf("Append of %d, %d", r.At, r.Time), got, err, st, api.ErrArg)
				}
			}
		}
	}
}

// P12.2: at a Next of MaxOffset there is no offset left; the one ahead of it is the last.
func TestAppendEnd(t *testing.T) {
	st := more(t, high(api.MaxOffset-2), 2, never)
	if st.Next != api.MaxOffset {
		t.Fatalf("Next is %d", st.Next)
	}
	if r, err := Read(st, api.MaxOffset-1); r != rec(api.MaxOffset-1) || err != api.OK {
		t.Errorf("Read of the last one = %v, %d", r, err)
	}
	for _, st := range []api.Store{st, syncedStore(t, st), high(api.MaxOffset), more(t, high(api.MaxOffset-1), 1, 1), withDisk(st, down(st.Disk)), withDisk(st, armed(st.Disk, 0)), withDisk(st, capped(st.Disk, 1))} {
		for _, seg := range []int{math.MinInt, 0, 1, never} {
			got, err := Append(st, seg, api.Rec{At: api.MaxOffset})
			same(t, "Append at the end", got, err, st, api.ErrEnd)
			got, err = Append(st, seg, api.Rec{At: api.MaxOffset, Time: -1})
			same(t, "Append of none at the end", got, err, st, api.ErrArg)
			got, err = Append(st, seg, api.Rec{At: api.MaxOffset - 1})
			same(t, "Append of one less at the end", got, err, st, api.ErrArg)
		}
	}
}

// P12.2: a seg that the last segment's bytes are below, at, and above: it rolls just from there on.
func TestRollAt(t *testing.T) {
	st := more(t, empty(t), 3, never)
	size := st.Segs[0].Size
	data := rows(rec(0), rec(1), rec(2))
	for _, seg := range []int{size + 1, size + 2, never} {
		got, err := Append(st, seg, rec(3))
		want := api.Store{Ver: 1, Segs: []api.Seg{{Base: 0, N: 4, Size: size + len(rows(rec(3)))}}, Next: 4}
		want.Disk = files(st.Disk.Files[0], part(segName(0), data+rows(rec(3)), 0))
		same(t, "Append below seg", got, err, want, api.OK)
	}
	for _, seg := range []int{size, size - 1, 1, 0, -1, math.MinInt} {
		got, err := Append(st, seg, rec(3))
		want := api.Store{Ver: 2, Segs: []api.Seg{{Base: 0, N: 3, Size: size}, {Base: 3, N: 1, Size: len(rows(rec(3)))}}, Next: 4, Sure: 3}
		want.Disk = files(sure("m", manBytes(api.Man{Ver: 2, Segs: []int{0, 3}})), sure(segName(0), data), part(segName(3), rows(rec(3)), 0))
		same(t, fmt.Sprintf("Append at a seg of %d", seg), got, err, want, api.OK)
	}
}

// P12.2: with a seg of 0, or below, a last segment without records would roll to a file that there is: its own.
func TestRollEmpty(t *testing.T) {
	for _, st := range []api.Store{empty(t), high(1000)} {
		for _, seg := range []int{0, -1, math.MinInt} {
			got, err := Append(st, seg, rec(st.Next))
			same(t, "Append to an empty segment", got, err, st, api.ErrThere)
			// The Sync was done; Create's own error is ahead of the fuse.
			armedOne := withDisk(st, armed(st.Disk, 1))
			got, err = Append(armedOne, seg, rec(st.Next))
			same(t, "Append to an empty segment with a fuse of 1", got, err, withDisk(st, armed(st.Disk, 0)), api.ErrThere)
			got, err = Append(got, seg, rec(st.Next))
			same(t, "Append to an empty segment with a fuse of 0", got, err, withDisk(st, down(st.Disk)), api.ErrDown)
		}
		got, err := Append(st, 1, rec(st.Next))
		want, wantErr := toldAppend(st, 1, rec(st.Next))
		same(t, "Append with a seg of 1", got, err, want, wantErr)
		if len(got.Segs) != 1 {
			t.Errorf("an empty segment rolled: %s", show(got))
		}
	}
	// Behind a first record it rolls each time.
	st := more(t, more(t, empty(t), 1, 1), 4, 0)
	if len(st.Segs) != 5 || st.Ver != 5 || st.Sure != 4 {
		t.Errorf("with a seg of 0: %s", show(st))
	}
}

// P12.2: with MaxSegs segments it doesn't roll, and the store is as it was; below seg it goes on.
func TestRollMaxSegs(t *testing.T) {
	st := more(t, empty(t), api.MaxSegs, 1)
	if len(st.Segs) != api.MaxSegs || st.Ver != api.MaxSegs || st.Sure != api.MaxSegs-1 {
		t.Fatalf("there are other segments: %s", show(st))
	}
	size := st.Segs[api.MaxSegs-1].Size
	for _, st := range broken(st) {
		for _, seg := range []int{size, 1, 0, -1, math.MinInt} {
			got, err := Append(st, seg, rec(st.Next))
			same(t, "Append with MaxSegs segments", got, err, st, api.ErrFull)
		}
	}
	got := more(t, st, 1, size+1)
	if got.Next != api.MaxSegs+1 || len(got.Segs) != api.MaxSegs || got.Sure != st.Sure || got.Ver != st.Ver {
		t.Errorf("below seg: %s", show(got))
	}
	less := trimmed(t, st, 1)
	if got := more(t, less, 1, 1); len(got.Segs) != api.MaxSegs {
		t.Errorf("behind a trim it doesn't roll: %s", show(got))
	}
}

// P12.2: each step of the roll, and the Append behind it, fails for a fuse: how far the store came.
func TestRollFuse(t *testing.T) {
	st := more(t, syncedStore(t, more(t, empty(t), 2, never)), 1, never)
	man, first, next := st.Disk.Files[0], rows(rec(0), rec(1), rec(2)), rows(rec(3))
	rolled := manBytes(api.Man{Ver: 2, Segs: []int{0, 3}})
	a, b := sure(segName(0), first), sure(segName(3), "")
	whole := []api.Seg{{Base: 0, N: 3, Size: len(first)}}
	two := []api.Seg{whole[0], {Base: 3}}
	for left, want := range []api.Store{
		{Ver: 1, Segs: whole, Next: 3, Sure: 2, Disk: st.Disk},
		{Ver: 1, Segs: whole, Next: 3, Sure: 3, Disk: files(man, a)},
		{Ver: 1, Segs: whole, Next: 3, Sure: 3, Disk: files(man, a, b)},
		{Ver: 1, Segs: whole, Next: 3, Sure: 3, Disk: files(man, sure("n", ""), a, b)},
		{Ver: 1, Segs: whole, Next: 3, Sure: 3, Disk: files(man, part("n", rolled, 0), a, b)},
		{Ver: 1, Segs: whole, Next: 3, Sure: 3, Disk: files(man, sure("n", rolled), a, b)},
		{Ver: 2, Segs: two, Next: 3, Sure: 3, Disk: files(sure("m", rolled), a, b)},
	} {
		got, err := Append(withDisk(st, armed(st.Disk, left)), 1, rec(3))
		same(t, fmt.Sprintf("a roll with a fuse of %d", left), got, err, withDisk(want, down(want.Disk)), api.ErrDown)
		again, err := Append(got, 1, rec(3))
		same(t, "Append without power", again, err, got, api.ErrDown)
		again, err = Sync(got)
		same(t, "Sync without power", again, err, got, api.ErrDown)
	}
	got, err := Append(withDisk(st, armed(st.Disk, 7)), 1, rec(3))
	want := api.Store{Ver: 2, Segs: []api.Seg{whole[0], {Base: 3, N: 1, Size: len(next)}}, Next: 4, Sure: 3}
	want.Disk = armed(files(sure("m", rolled), a, part(segName(3), next, 0)), 0)
	same(t, "a roll with a fuse of 7", got, err, want, api.OK)
}

// P12.2: there is no room for the manifest, so that the roll fails; or none for the frame, behind a roll that was done.
func TestRollFull(t *testing.T) {
	st := more(t, syncedStore(t, more(t, empty(t), 2, never)), 1, never)
	man, first := st.Disk.Files[0], rows(rec(0), rec(1), rec(2))
	rolled := manBytes(api.Man{Ver: 2, Segs: []int{0, 3}})
	a, b := sure(segName(0), first), sure(segName(3), "")
	used := disk.Used(st.Disk)
	back := api.Store{Ver: 1, Segs: []api.Seg{{Base: 0, N: 3, Size: len(first)}}, Next: 3, Sure: 3}
	done := api.Store{Ver: 2, Segs: []api.Seg{back.Segs[0], {Base: 3}}, Next: 3, Sure: 3}
	for room := range len(rolled) {
		d := capped(st.Disk, used+room)
		got, err := Append(withDisk(st, d), 1, rec(3))
		same(t, "a roll without room", got, err, withDisk(back, capped(files(man, a), used+room)), api.ErrFull)
		for left, want := range map[int]api.Disk{
			3: down(files(man, sure("n", ""), a, b)), // the Delete of n fails
			4: down(files(man, a, b)),                // that of the new segment's file
			5: armed(files(man, a), 0),
		} {
			wantErr := api.ErrFull
			if want.Down {
				wantErr = api.ErrDown
			}
			got, err = Append(withDisk(st, armed(d, left)), 1, rec(3))
			same(t, fmt.Sprintf("a roll without room, with a fuse of %d", left), got, err, withDisk(back, capped(want, used+room)), wantErr)
		}
	}
	// While the manifest is swapped both are there; behind it the elder one's bytes are free for the frame.
	free := len(man.Data)
	for room := len(rolled); room < len(rolled)+140; room++ {
		got, err := Append(withDisk(st, capped(st.Disk, used+room)), 1, rec(3))
		if room-len(rolled)+free >= len(rows(rec(3))) {
			want := api.Store{Ver: 2, Segs: []api.Seg{back.Segs[0], {Base: 3, N: 1, Size: len(rows(rec(3)))}}, Next: 4, Sure: 3}
			want.Disk = capped(files(sure("m", rolled), a, part(segName(3), rows(rec(3)), 0)), used+room)
			same(t, "a roll with room", got, err, want, api.OK)
			continue
		}
		same(t, "a roll with room, but none for the frame", got, err, withDisk(done, capped(files(sure("m", rolled), a, b), used+room)), api.ErrFull)
	}
}

// P12.2: without a roll: no room for the frame, a fuse that goes, no power; the store is as it was but for its Disk.
func TestAppendFails(t *testing.T) {
	for _, st := range stores(t) {
		if st.Next == api.MaxOffset {
			continue
		}
		size := len(rows(rec(st.Next)))
		used := disk.Used(st.Disk)
		for _, room := range []int{0, 1, size - 1} {
			full := withDisk(st, capped(st.Disk, used+room))
			got, err := Append(full, never, rec(st.Next))
			same(t, "Append without room", got, err, full, api.ErrFull)
			full = withDisk(full, armed(full.Disk, 0))
			got, err = Append(full, never, rec(st.Next))
			same(t, "Append without room, with a fuse of 0", got, err, full, api.ErrFull)
		}
		got, err := Append(withDisk(st, capped(st.Disk, used+size)), never, rec(st.Next))
		if err != api.OK || got.Next != st.Next+1 {
			t.Fatalf("Append with just enough room: %d, %s", err, show(got))
		}
		got, err = Append(withDisk(st, armed(st.Disk, 0)), never, rec(st.Next))
		same(t, "Append with a fuse of 0", got, err, withDisk(st, down(st.Disk)), api.ErrDown)
	}
}

// P12.2: Sync that fails: Sure is as it was; and one that doesn't, of all kinds of stores.
func TestSync(t *testing.T) {
	for _, st := range stores(t) {
		got, err := Sync(withDisk(st, armed(st.Disk, 0)))
		same(t, "Sync with a fuse of 0", got, err, withDisk(st, down(st.Disk)), api.ErrDown)
		got, err = Sync(withDisk(st, down(st.Disk)))
		same(t, "Sync without power", got, err, withDisk(st, down(st.Disk)), api.ErrDown)
		for _, st := range broken(st) {
			want, wantErr := toldSync(st)
			got, err := Sync(st)
			same(t, "Sync of "+show(st), got, err, want, wantErr)
			if err == api.OK && got.Sure != st.Next {
				t.Fatalf("behind Sync: %s", show(got))
			}
		}
	}
}

// P12.2: Append to all kinds of stores, with all kinds of fuses and caps, by the chapter's words.
func TestAppendAny(t *testing.T) {
	told := map[api.Errno]int{}
	for _, bare := range stores(t) {
		size := bare.Segs[len(bare.Segs)-1].Size
		for _, st := range broken(bare) {
			for _, seg := range []int{math.MinInt, 0, 1, size, size + 1, never} {
				want, wantErr := toldAppend(st, seg, rec(st.Next))
				got, err := Append(st, seg, rec(st.Next))
				same(t, fmt.Sprintf("Append at a seg of %d to %s", seg, show(st)), got, err, want, wantErr)
				told[err]++
			}
		}
	}
	for _, err := range []api.Errno{api.OK, api.ErrFull, api.ErrDown, api.ErrThere} {
		if told[err] == 0 {
			t.Errorf("told: %v", told)
		}
	}
}

// readAll fails the test unless just these records are read one by one, from the floor on, and what is around them isn't.
func readAll(t *testing.T, st api.Store, l []api.Rec) {
	t.Helper()
	floor := st.Next - len(l)
	for i, r := range l {
		if got, err := Read(st, floor+i); got != r || err != api.OK {
			t.Fatalf("Read of %d of %s = %v, %d", floor+i, show(st), got, err)
		}
	}
	for _, off := range append([]int{st.Next, st.Next + 1, -1, -2, floor - 1, floor / 2}, ends...) {
		want := api.ErrRange
		switch {
		case off >= floor && off < st.Next:
			continue
		case off >= 0 && off < floor:
			want = api.ErrTrim
		}
		if got, err := Read(st, off); got != (api.Rec{}) || err != want {
			t.Fatalf("Read of %d of %s = %v, %d, want %d", off, show(st), got, err, want)
		}
	}
}

// recs: the records from one offset up to another one.
func recs(from, to int) []api.Rec {
	var l []api.Rec
	for at := from; at < to; at++ {
		l = append(l, rec(at))
	}
	return l
}

// P12.3: Read below 0, of the first and the last record, of Next, below the floor, of each that there is, sure or not.
func TestRead(t *testing.T) {
	for _, st := range stores(t) {
		readAll(t, st, recs(st.Segs[0].Base, st.Next))
		readAll(t, withDisk(st, down(st.Disk)), recs(st.Segs[0].Base, st.Next))
	}
	st := more(t, high(10), 2, never)
	for off, want := range map[int]api.Errno{-1: api.ErrRange, 0: api.ErrTrim, 9: api.ErrTrim, 10: api.OK, 11: api.OK, 12: api.ErrRange} {
		if _, err := Read(st, off); err != want {
			t.Errorf("Read of %d = %d, want %d", off, err, want)
		}
	}
}

// toldFrom: what From tells of a store that has these records from the floor on, by the chapter's words.
func toldFrom(st api.Store, l []api.Rec, off, bytes, most int) []api.Rec {
	var told []api.Rec
	sum := 0
	for _, r := range l {
		if off < l[0].At || r.At < off {
			continue
		}
		sum += len(rows(r))
		if r.At >= st.Sure || sum > bytes || len(told) >= most {
			break
		}
		told = append(told, r)
	}
	return told
}

// from fails the test unless From tells that.
func from(t *testing.T, st api.Store, off, bytes, most int, want []api.Rec) {
	t.Helper()
	if got := From(st, off, bytes, most); !slices.Equal(got, want) {
		t.Fatalf("From(%s, %d, %d, %d) = %d records, want %d", show(st), off, bytes, most, len(got), len(want))
	}
}

// P12.3: From below the floor, from the floor on, up to Sure and no further, with bytes just enough and one less, a most of 0, of one, of more than there are.
func TestFrom(t *testing.T) {
	for _, st := range stores(t) {
		floor := st.Segs[0].Base
		l := recs(floor, st.Next)
		for _, off := range append([]int{floor - 1, floor, floor + 1, (floor + st.Next) / 2, st.Sure - 1, st.Sure, st.Next - 1, st.Next, st.Next + 1}, ends...) {
			for _, n := range []int{0, 1, 2, 5, len(l)} {
				sum := 0
				for _, r := range toldFrom(st, l, off, math.MaxInt, n) {
					sum += len(rows(r))
				}
				for _, bytes := range []int{sum - 1, sum, sum + 1, sum + 7, math.MaxInt, 0, -1, math.MinInt} {
					for _, most := range []int{n - 1, n, n + 1, 0, 1, len(l) + 1, math.MaxInt, -1, math.MinInt} {
						from(t, st, off, bytes, most, toldFrom(st, l, off, bytes, most))
					}
				}
			}
		}
	}
}

// P12.3: From just at what fits: of three records that aren't equally long, in one segment and in three.
func TestFromFits(t *testing.T) {
	for _, seg := range []int{1, never} {
		st := empty(t)
		l := []api.Rec{{At: 0, Data: "abc"}, {At: 1}, {At: 2, Data: "abcdefgh"}, {At: 3}}
		for _, r := range l {
			next, err := Append(st, seg, r)
			st = fine(t, next, err)
		}
		if seg == never {
			from(t, st, 0, math.MaxInt, math.MaxInt, nil)
		} else {
			from(t, st, 0, math.MaxInt, math.MaxInt, l[:3])
		}
		st = syncedStore(t, st)
		// Frames of 10, 7, 15 and 7 bytes.
		for bytes, n := range map[int]int{math.MinInt: 0, -1: 0, 0: 0, 1: 0, 9: 0, 10: 1, 16: 1, 17: 2, 24: 2, 31: 2, 32: 3, 38: 3, 39: 4, 40: 4, math.MaxInt: 4} {
			from(t, st, 0, bytes, 9, l[:n])
			from(t, st, 0, bytes, 2, l[:min(n, 2)])
		}
		// The third one doesn't fit, so the fourth one isn't told, though it would.
		from(t, st, 1, 14, 9, l[1:2])
		from(t, st, 2, 14, 9, nil)
		from(t, st, 2, 15, 9, l[2:3])
		from(t, st, 3, 7, 9, l[3:])
		from(t, st, 3, 6, 9, nil)
		from(t, st, 4, 100, 9, nil)
		for most := range 6 {
			from(t, st, 0, math.MaxInt, most, l[:min(most, 4)])
		}
	}
}

// P12.3: a segment of very many records, as long as may be, is read at all its ends.
func TestLongSegment(t *testing.T) {
	st := syncedStore(t, more(t, empty(t), 3000, never))
	for _, off := range []int{0, 1, 1499, 2998, 2999} {
		if r, err := Read(st, off); r != rec(off) || err != api.OK {
			t.Errorf("Read of %d = %v, %d", off, r, err)
		}
		from(t, st, off, math.MaxInt, 64, recs(off, min(off+64, 3000)))
		from(t, st, off, 4096, math.MaxInt, toldFrom(st, recs(0, 3000), off, 4096, math.MaxInt))
	}
}

// roomy: the store in lists with spare room, in which there are others.
func roomy(st api.Store) api.Store {
	l := append(slices.Clone(st.Disk.Files), sure("spare", "s"), sure("room", "r"), sure("more", ""))
	st.Disk.Files = l[:len(st.Disk.Files)]
	segs := append(slices.Clone(st.Segs), api.Seg{Base: -1, N: -2, Size: -3}, api.Seg{Base: -4}, api.Seg{Base: -5})
	st.Segs = segs[:len(st.Segs)]
	return st
}

// deep: the store with all its lists' room, of which nothing is shared.
func deep(st api.Store) api.Store {
	st.Disk.Files = slices.Clone(st.Disk.Files[:cap(st.Disk.Files)])
	st.Segs = slices.Clone(st.Segs[:cap(st.Segs)])
	return st
}

// still fails the test unless the store, and its lists' spare room, is as it was.
func still(t *testing.T, what string, st, was api.Store) {
	t.Helper()
	if now := deep(st); !alike(now, was) {
		t.Fatalf("%s changed what was handed in: %s\nwas %s", what, show(now), show(was))
	}
}

// P12.1 to P12.3: what is handed in stays as it was, its spare room too, and so does what is told behind it.
func TestHandedIn(t *testing.T) {
	for _, bare := range stores(t) {
		for _, st := range broken(roomy(bare)) {
			was := deep(st)
			one, _ := Append(st, never, rec(st.Next))
			oneWas := deep(one)
			two, _ := Append(st, 1, rec(st.Next))
			twoWas := deep(two)
			Append(st, never, api.Rec{At: st.Next, Time: 77, Data: "other"})
			Append(st, 1, api.Rec{At: st.Next, Time: 77, Data: "other"})
			Append(one, never, rec(one.Next))
			Append(one, 1, rec(one.Next))
			Append(two, 1, rec(two.Next))
			Sync(st)
			Sync(one)
			Swap(st.Disk, api.Man{Ver: 9, Segs: []int{0}})
			Create(st.Disk)
			Read(st, st.Next-1)
			clear(From(st, st.Segs[0].Base, math.MaxInt, math.MaxInt))
			clear(Man(st).Segs)
			Floor(st)
			still(t, "a call", st, was)
			still(t, "a call", one, oneWas)
			still(t, "a call", two, twoWas)
		}
	}
}

// P12.1: Swap leaves the manifest's list as it was, its spare room too, and hangs on its own part alone.
func TestSwapHandedIn(t *testing.T) {
	room := []int{5, 7, 9, -1, -2}
	for _, d := range swapDisks() {
		want, wantErr := Swap(d, api.Man{Ver: 4, Segs: []int{5, 7, 9}, Size: 2})
		got, err := Swap(d, api.Man{Ver: 4, Segs: room[:3], Size: 2})
		sameDisk(t, "Swap", got, err, want, wantErr)
	}
	if !slices.Equal(room, []int{5, 7, 9, -1, -2}) {
		t.Errorf("Swap changed its list: %v", room)
	}
}

// history is a store, and what was appended to it, told apart from it: from the floor on.
type history struct {
	st api.Store
	l  []api.Rec
}

// next: the history behind one more call, which is what the chapter's words say.
func (h history) next(t *testing.T, r *rand.Rand) (history, api.Errno) {
	t.Helper()
	st := h.st
	switch r.Intn(12) {
	case 0:
		want, wantErr := toldSync(st)
		got, err := Sync(st)
		same(t, "Sync", got, err, want, wantErr)
		return history{got, h.l}, err
	case 1:
		st.Disk = disk.Arm(st.Disk, r.Intn(40)-20)
		return history{st, h.l}, api.OK
	case 2:
		st.Disk = disk.Limit(st.Disk, disk.Used(st.Disk)+r.Intn(200)-50)
		return history{st, h.l}, api.OK
	case 3:
		st.Disk = disk.Limit(st.Disk, 0)
		return history{st, h.l}, api.OK
	}
	one := api.Rec{At: st.Next, Time: r.Intn(9), Data: strings.Repeat("d", r.Intn(70))}
	if r.Intn(20) == 0 {
		one.At += r.Intn(3) - 1
	}
	seg := []int{never, 200, 90, 20, 1, 0, -1}[r.Intn(7)]
	want, wantErr := toldAppend(st, seg, one)
	got, err := Append(st, seg, one)
	same(t, fmt.Sprintf("Append at a seg of %d to %s", seg, show(st)), got, err, want, wantErr)
	if err == api.OK {
		return history{got, append(slices.Clone(h.l), one)}, api.OK
	}
	return history{got, h.l}, err
}

// P12.2 to P12.4: long histories: what was appended is read record by record, across segments; beside an error the same is read as ahead of it; elder stores, of which others are made too, stay as they were.
func TestHistory(t *testing.T) {
	told := map[api.Errno]int{}
	for seed := range 30 {
		r := rand.New(rand.NewSource(int64(seed)))
		base := []int{0, 0, 300, api.MaxOffset - 40}[seed%4]
		h := history{st: empty(t)}
		if base > 0 {
			h.st = high(base)
		}
		var elder []history
		var was []api.Store
		for range 200 {
			elder, was = append(elder, h), append(was, deep(h.st))
			if h.st.Disk.Down || r.Intn(30) == 0 {
				h = elder[r.Intn(len(elder))]
			}
			next, err := h.next(t, r)
			told[err]++
			readAll(t, next.st, next.l)
			off, bytes, most := base+r.Intn(len(next.l)+3)-1, r.Intn(400), r.Intn(12)
			from(t, next.st, off, bytes, most, toldFrom(next.st, next.l, off, bytes, most))
			h = next
		}
		for i, e := range elder {
			still(t, "a later call", e.st, was[i])
		}
	}
	for _, err := range []api.Errno{api.OK, api.ErrArg, api.ErrFull, api.ErrDown, api.ErrThere, api.ErrEnd} {
		if told[err] == 0 {
			t.Errorf("told: %v", told)
		}
	}
}

// P12.2, P12.4: wherever the power goes, the manifest that is left is the one ahead of it or the one behind it, and all that was told as sure is in its segments.
func TestSureBehindCrash(t *testing.T) {
	for _, bare := range stores(t) {
		for left := range 9 {
			st, _ := Append(withDisk(bare, armed(bare.Disk, left)), 1, rec(bare.Next))
			d := disk.Crash(st.Disk, nil)
			s, _ := disk.Read(d, "m")
			m, err := manifest.Get(s)
			if err != api.OK || m.Ver != bare.Ver && m.Ver != bare.Ver+1 || m.Ver < st.Ver {
				t.Fatalf("of %s the manifest is %v, %d", show(st), m, err)
			}
			l := recs(bare.Segs[0].Base, st.Sure)
			data := ""
			for _, base := range m.Segs {
				s, err := disk.Read(d, segName(base))
				if err != api.OK {
					t.Fatalf("of %s there is no file of %d", show(st), base)
				}
				data += s
			}
			if !strings.HasPrefix(data, rows(l...)) {
				t.Fatalf("of %s not all that is sure is left", show(st))
			}
		}
	}
}

// Beside an error Create tells a store without segments: calls of it end, nothing is read, and nothing is written.
func TestNoSegments(t *testing.T) {
	for _, d := range []api.Disk{{Cap: 5}, {Armed: true, Left: 0}, {Armed: true, Left: 1}, {Armed: true, Left: 2}, {Armed: true, Left: 4}, {Down: true}} {
		st, err := Create(d)
		if err == api.OK || len(st.Segs) != 0 {
			t.Fatalf("Create of %s: %d", showDisk(d), err)
		}
		if m := Man(st); Floor(st) != 0 || m.Ver != 0 || len(m.Segs) != 0 || m.Size != 0 || m.Sum != 0 {
			t.Errorf("of %s the floor is %d, the manifest %v", show(st), Floor(st), m)
		}
		readAll(t, st, nil)
		for _, off := range ends {
			from(t, st, off, math.MaxInt, math.MaxInt, nil)
		}
		want := api.ErrNone
		if st.Disk.Down {
			want = api.ErrDown
		}
		for _, seg := range []int{math.MinInt, 0, never} {
			got, err := Append(st, seg, rec(0))
			same(t, "Append without segments", got, err, st, want)
			got, err = Append(st, seg, rec(1))
			same(t, "Append of another one without segments", got, err, st, api.ErrArg)
		}
		got, err := Sync(st)
		same(t, "Sync without segments", got, err, st, want)
	}
}

// Of a manifest that may not be nothing is promised, but nothing is done with it.
func TestSwapNotAsked(t *testing.T) {
	for _, m := range []api.Man{{}, {Ver: 1}, {Segs: []int{0}}, {Ver: 1, Segs: []int{5}}, {Ver: 1, Segs: []int{0}, Size: 1}, {Ver: 1, Segs: []int{3, 3}, Size: 1}} {
		for _, d := range swapDisks() {
			got, err := Swap(d, m)
			sameDisk(t, "Swap of no manifest", got, err, d, api.ErrArg)
		}
	}
}

// The same again answers the same, whatever was asked between.
func TestNothingKept(t *testing.T) {
	for _, st := range stores(t) {
		first, err := Append(st, 1, rec(st.Next))
		l := From(st, st.Segs[0].Base, 300, 9)
		Append(high(5), 0, rec(5))
		Create(api.Disk{Cap: 3})
		again, errAgain := Append(st, 1, rec(st.Next))
		same(t, "Append again", again, errAgain, first, err)
		from(t, st, st.Segs[0].Base, 300, 9, l)
	}
}
