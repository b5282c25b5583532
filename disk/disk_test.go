package disk

import (
	"fmt"
	"maps"
	"math"
	"math/rand"
	"slices"
	"strings"
	"testing"

	"wagoner/api"
)

// long: a name of so many bytes.
func long(n int) string {
	return strings.Repeat("n", n)
}

// file: a file of these bytes, of which the first ones are sure.
func file(name, sure, unsure string) api.File {
	return api.File{Name: name, Data: sure + unsure, Sure: len(sure)}
}

// lists: of no file, of one, of many, of names that lie close together, short and long, of all kinds of bytes.
func lists() [][]api.File {
	return [][]api.File{
		nil,
		{},
		{file("b", "", "")},
		{file("b", "ab", "cd")},
		{file(long(32), "", "abc")},
		{file("\x00", "abc", "")},
		{file("b", "abcd", ""), file("d", "", "efgh")},
		{file("a", "x", ""), file("b", "\x00\x80", "\xff"), file("ba", "", ""), file("bb", "12", "3"), file("d", "", "45678"), file(long(31), "", "y"), file(long(32), "zz", "z"), file("\xff", "", "\xfe")},
		many(70),
	}
}

// many: so many files, of unlike sizes.
func many(n int) []api.File {
	var l []api.File
	for i := range n {
		l = append(l, file(fmt.Sprintf("b%03d", i), strings.Repeat("s", i%4), strings.Repeat("u", i%3)))
	}
	return l
}

// roomy: the same files in a list with spare room, in which there are others.
func roomy(l []api.File) []api.File {
	own := append(slices.Clone(l), file("spare", "s", "p"), file("room", "r", "m"), file("more", "", ""))
	return own[:len(l)]
}

// disks: of these files, of all kinds of fuses, and of caps that are far, just what is used, one more, less than that.
func disks(files []api.File) []api.Disk {
	var l []api.Disk
	used := Used(api.Disk{Files: files})
	for _, room := range []int{0, 1, used, used + 1, used + 3, max(used-1, 0), math.MaxInt} {
		for _, left := range []int{0, 1, 2, math.MaxInt} {
			l = append(l, api.Disk{Files: roomy(files), Cap: room, Armed: true, Left: left})
		}
		l = append(l, api.Disk{Files: roomy(files), Cap: room}, api.Disk{Files: roomy(files), Cap: room, Left: 7})
		l = append(l, api.Disk{Files: roomy(files), Cap: room, Down: true}, api.Disk{Files: roomy(files), Cap: room, Down: true, Armed: true, Left: 3}, api.Disk{Files: roomy(files), Cap: room, Down: true, Armed: true})
	}
	return l
}

// all: the disks of all lists.
func all() []api.Disk {
	var l []api.Disk
	for _, files := range lists() {
		l = append(l, disks(files)...)
	}
	return l
}

// names: of a disk's files, and others that stand ahead of them, amid them, behind them; some that may not be.
func names(files []api.File) []string {
	l := []string{"", "\x00", "a", "b", "b\x00", "bab", "c", "d", "z", "\xff", "\xff\xff", long(31), long(32), long(33), long(64), strings.Repeat("\x00", 33), "b0345"}
	for i := 0; i < len(files); i += max(len(files)/5, 1) {
		l = append(l, files[i].Name)
	}
	return l
}

// op: a change: its kind, and what it is told.
type op struct {
	kind, name, to, data string
	n                    int
}

// String: the op in words.
func (o op) String() string {
	return fmt.Sprintf("%s %q to %q %.80q %d", o.kind, o.name, o.to, o.data, o.n)
}

// run: what the program makes of the op.
func run(d api.Disk, o op) (api.Disk, api.Errno) {
	switch o.kind {
	case "create":
		return Create(d, o.name)
	case "append":
		return Append(d, o.name, o.data)
	case "sync":
		return Sync(d, o.name)
	case "cut":
		return Cut(d, o.name, o.n)
	case "rename":
		return Rename(d, o.name, o.to)
	}
	return Delete(d, o.name)
}

// mayBe: is it a name, by the chapter's words?
func mayBe(name string) bool {
	return len(name) >= 1 && len(name) <= 32
}

// own: the op's own error, by the chapter's words.
func own(d api.Disk, o op) api.Errno {
	files := table(d)
	f, there := files[o.name]
	switch {
	case o.kind == "create" && !mayBe(o.name):
		return api.ErrArg
	case o.kind == "create" && there:
		return api.ErrThere
	case o.kind == "create":
		return api.OK
	case !there:
		return api.ErrNone
	case o.kind == "append" && d.Cap != 0 && bytesOf(d)+len(o.data) > d.Cap:
		return api.ErrFull
	case o.kind == "cut" && (o.n < 0 || o.n > len(f.Data)):
		return api.ErrRange
	case o.kind == "rename" && !mayBe(o.to):
		return api.ErrArg
	}
	return api.OK
}

// told: the disk behind the op and its error, by the chapter's words.
func told(d api.Disk, o op) (api.Disk, api.Errno) {
	if d.Down {
		return d, api.ErrDown
	}
	if err := own(d, o); err != api.OK {
		return d, err
	}
	if d.Armed && d.Left == 0 {
		d.Down = true
		return d, api.ErrDown
	}
	if d.Armed {
		d.Left--
	}
	files := table(d)
	f := files[o.name]
	switch o.kind {
	case "create":
		files[o.name] = api.File{Name: o.name}
	case "append":
		files[o.name] = api.File{Name: o.name, Data: f.Data + o.data, Sure: f.Sure}
	case "sync":
		files[o.name] = api.File{Name: o.name, Data: f.Data, Sure: len(f.Data)}
	case "cut":
		files[o.name] = api.File{Name: o.name, Data: f.Data[:o.n], Sure: min(f.Sure, o.n)}
	case "rename":
		delete(files, o.name)
		files[o.to] = api.File{Name: o.to, Data: f.Data, Sure: f.Sure}
	case "delete":
		delete(files, o.name)
	}
	d.Files = rising(files)
	return d, api.OK
}

// table: a disk's files by their names.
func table(d api.Disk) map[string]api.File {
	m := map[string]api.File{}
	for _, f := range d.Files {
		m[f.Name] = f
	}
	return m
}

// rising: the files of a table, by their names.
func rising(m map[string]api.File) []api.File {
	var l []api.File
	for _, name := range slices.Sorted(maps.Keys(m)) {
		l = append(l, m[name])
	}
	return l
}

// bytesOf: how many bytes all files have.
func bytesOf(d api.Disk) int {
	s := ""
	for _, f := range d.Files {
		s += f.Data
	}
	return len(s)
}

// behind: what a crash leaves, by the chapter's words, byte by byte.
func behind(d api.Disk, keep []int) api.Disk {
	var l []api.File
	for i, f := range d.Files {
		left := f.Data[:f.Sure]
		for k := f.Sure; k < len(f.Data) && i < len(keep) && k-f.Sure < keep[i]; k++ {
			left += f.Data[k : k+1]
		}
		l = append(l, api.File{Name: f.Name, Data: left, Sure: len(left)})
	}
	return api.Disk{Files: l, Cap: d.Cap}
}

// ops: of all kinds, at all of a disk's names and at others.
func ops(files []api.File) []op {
	var l []op
	for _, name := range names(files) {
		l = append(l, op{kind: "create", name: name}, op{kind: "sync", name: name}, op{kind: "delete", name: name})
		for _, data := range []string{"", "1", "12", "123", "1234", long(300)} {
			l = append(l, op{kind: "append", name: name, data: data})
		}
		for _, n := range []int{0, 1, 2, 3, 4, 5, 6, -1, math.MinInt, math.MaxInt} {
			l = append(l, op{kind: "cut", name: name, n: n})
		}
		for _, to := range names(files) {
			l = append(l, op{kind: "rename", name: name, to: to})
		}
	}
	return l
}

// alike: are both the same disk?
func alike(a, b api.Disk) bool {
	return slices.Equal(a.Files, b.Files) && a.Cap == b.Cap && a.Armed == b.Armed && a.Left == b.Left && a.Down == b.Down
}

// show: a disk in words.
func show(d api.Disk) string {
	files := ""
	for _, f := range d.Files {
		files += fmt.Sprintf("%q: %q, %d sure; ", f.Name, f.Data, f.Sure)
	}
	return fmt.Sprintf("%.400sCap %d Armed %v Left %d Down %v", files, d.Cap, d.Armed, d.Left, d.Down)
}

// same fails the test unless both are the same disk.
func same(t *testing.T, what string, got, want api.Disk) {
	t.Helper()
	if !alike(got, want) {
		t.Fatalf("%s: %s, want %s", what, show(got), show(want))
	}
}

// checked fails the test unless the op's answer is what the chapter's words say; and answers the disk.
func checked(t *testing.T, d api.Disk, o op) api.Disk {
	t.Helper()
	got, err := run(d, o)
	want, wantErr := told(d, o)
	if err != wantErr {
		t.Fatalf("%s of %s tells %d, want %d", o, show(d), err, wantErr)
	}
	if !alike(got, want) {
		t.Fatalf("%s of %s: %s, want %s", o, show(d), show(got), show(want))
	}
	return got
}

// tell fails the test unless a call told just that.
func tell(t *testing.T, what string, got, want api.Errno) {
	t.Helper()
	if got != want {
		t.Fatalf("%s tells %d, want %d", what, got, want)
	}
}

// P6.1: disks that may be: of no file, of one, of many; a Sure of none, of some, of all bytes; whatever Cap, fuse and power.
func TestRight(t *testing.T) {
	for _, d := range all() {
		if !Right(d) {
			t.Fatalf("Right of %s is false", show(d))
		}
	}
	for n := 1; n <= api.MaxName; n++ {
		if !Right(api.Disk{Files: []api.File{{Name: long(n)}}}) {
			t.Fatalf("Right of a name of %d bytes is false", n)
		}
	}
	for sure := -2; sure <= 6; sure++ {
		d := api.Disk{Files: []api.File{{Name: "b", Data: "abcd", Sure: sure}}}
		if Right(d) != (sure >= 0 && sure <= 4) {
			t.Fatalf("Right of a Sure of %d of 4 bytes is %v", sure, Right(d))
		}
	}
	for _, n := range []int{math.MinInt, -2, -1, 0, 1, 2, math.MaxInt} {
		if Right(api.Disk{Cap: n}) != (n >= 0) || Right(api.Disk{Left: n}) != (n >= 0) || Right(api.Disk{Armed: true, Left: n}) != (n >= 0) || Right(api.Disk{Down: true, Cap: n}) != (n >= 0) {
			t.Fatalf("Right of a Cap or a Left of %d is wrong", n)
		}
	}
}

// P6.1: names that rise, that are the same, that fall.
func TestRightNames(t *testing.T) {
	l := []string{"\x00", "\x00\x00", "a", "a\x00", "aa", "ab", "b", long(31), long(32), "z", "\x7f", "\x80", "\xff"}
	for i, a := range l {
		for k, b := range l {
			d := api.Disk{Files: []api.File{{Name: a}, {Name: b}}}
			if Right(d) != (i < k) {
				t.Fatalf("Right of the names %q, %q is %v", a, b, Right(d))
			}
		}
	}
}

// P6.1: one file that may not be, ahead of others, amid them, behind them, alone.
func TestRightWrong(t *testing.T) {
	for _, good := range lists() {
		for at := range good {
			f := good[at]
			bad := []api.File{{Data: f.Data, Sure: f.Sure}, {Name: long(33), Data: f.Data, Sure: f.Sure}, {Name: long(64)}, {Name: f.Name, Data: f.Data, Sure: -1}, {Name: f.Name, Data: f.Data, Sure: math.MinInt}, {Name: f.Name, Data: f.Data, Sure: len(f.Data) + 1}, {Name: f.Name, Data: f.Data, Sure: math.MaxInt}}
			for _, b := range bad {
				l := slices.Clone(good)
				l[at] = b
				if d := (api.Disk{Files: l}); Right(d) {
					t.Fatalf("Right of %s is true", show(d))
				}
			}
			l := slices.Insert(slices.Clone(good), at, f)
			if d := (api.Disk{Files: l}); Right(d) {
				t.Fatalf("Right of %s is true", show(d))
			}
			if at > 0 {
				l = slices.Clone(good)
				l[at], l[at-1] = l[at-1], l[at]
				if d := (api.Disk{Files: l}); Right(d) {
					t.Fatalf("Right of %s is true", show(d))
				}
			}
		}
	}
}

// P6.1: all names, rising, each file's bytes, no file's bytes, and how many there are; of a disk that is Down, too.
func TestLook(t *testing.T) {
	for _, d := range all() {
		files := table(d)
		if got := Names(d); !slices.Equal(got, slices.Sorted(maps.Keys(files))) {
			t.Fatalf("Names of %s = %q", show(d), got)
		}
		if got := Used(d); got != bytesOf(d) {
			t.Fatalf("Used of %s = %d, want %d", show(d), got, bytesOf(d))
		}
		for _, name := range names(d.Files) {
			want := api.ErrNone
			if _, there := files[name]; there {
				want = api.OK
			}
			if s, err := Read(d, name); s != files[name].Data || err != want {
				t.Fatalf("Read of %q of %s = %q, %d, want %q, %d", name, show(d), s, err, files[name].Data, want)
			}
		}
		for _, f := range d.Files {
			if s, err := Read(d, f.Name); s != f.Data || err != api.OK {
				t.Fatalf("Read of %q of %s = %q, %d, want %q", f.Name, show(d), s, err, f.Data)
			}
		}
	}
}

// P6.2: each change of each disk: done, with its own error, or without power; of several errors the first one.
func TestChange(t *testing.T) {
	for _, d := range all() {
		for _, o := range ops(d.Files) {
			if got := checked(t, d, o); !Right(got) {
				t.Fatalf("behind %s of %s there is what may not be: %s", o, show(d), show(got))
			}
		}
	}
}

// P6.2: a file is made, without bytes, ahead of all others, amid them, behind them; not of a name that may not be, nor twice.
func TestCreate(t *testing.T) {
	d := api.Disk{}
	for _, name := range []string{"m", "a", "z", "f", long(32), "\x00", "\xff"} {
		var err api.Errno
		d, err = Create(d, name)
		tell(t, fmt.Sprintf("Create of %q", name), err, api.OK)
		_, err = Create(d, name)
		tell(t, fmt.Sprintf("Create again of %q", name), err, api.ErrThere)
	}
	same(t, "Create", d, api.Disk{Files: []api.File{{Name: "\x00"}, {Name: "a"}, {Name: "f"}, {Name: "m"}, {Name: long(32)}, {Name: "z"}, {Name: "\xff"}}})
	for _, name := range []string{"", long(33), long(1000)} {
		got, err := Create(d, name)
		tell(t, "Create of no name", err, api.ErrArg)
		same(t, "Create of no name", got, d)
	}
}

// P6.2: bytes more, at the end, sure only when the file is synced.
func TestAppend(t *testing.T) {
	d, _ := Create(api.Disk{}, "b")
	d, _ = Append(d, "b", "ab")
	same(t, "Append", d, api.Disk{Files: []api.File{file("b", "", "ab")}})
	d, _ = Sync(d, "b")
	same(t, "Sync", d, api.Disk{Files: []api.File{file("b", "ab", "")}})
	d, _ = Append(d, "b", "cd")
	same(t, "Append behind Sync", d, api.Disk{Files: []api.File{file("b", "ab", "cd")}})
	d, _ = Append(d, "b", "")
	same(t, "Append of nothing", d, api.Disk{Files: []api.File{file("b", "ab", "cd")}})
	for n, want := range []string{"ab", "abc", "abcd", "abcd"} {
		same(t, "Crash", Crash(d, []int{n}), api.Disk{Files: []api.File{file("b", want, "")}})
	}
}

// P6.2: an append up to just Cap, one byte more; at a disk that has more already, also of no byte; Cap 0 is none.
func TestAppendFull(t *testing.T) {
	files := []api.File{file("a", "12", "3"), file("b", "", "4567")}
	for room := range 20 {
		for n := range 20 {
			d := api.Disk{Files: files, Cap: room}
			want := api.OK
			if room > 0 && 7+n > room {
				want = api.ErrFull
			}
			got, err := Append(d, "a", long(n))
			tell(t, fmt.Sprintf("Append of %d bytes to 7 of %d", n, room), err, want)
			if err == api.OK {
				d = api.Disk{Files: []api.File{file("a", "12", "3"+long(n)), files[1]}, Cap: room}
			}
			same(t, "Append", got, d)
		}
	}
	_, err := Append(api.Disk{Files: files, Cap: 1}, "none", "12345678")
	tell(t, "Append to none, without room", err, api.ErrNone)
	_, err = Append(api.Disk{Files: files, Cap: 1, Armed: true}, "a", "1")
	tell(t, "Append without room, at the fuse's end", err, api.ErrFull)
	_, err = Append(api.Disk{Files: files, Cap: 1, Down: true}, "a", "1")
	tell(t, "Append without room, without power", err, api.ErrDown)
}

// P6.2: a cut at 0, amid what is sure, amid what isn't, at the end; below 0 and behind the end.
func TestCut(t *testing.T) {
	for sure := range 5 {
		d := api.Disk{Files: []api.File{file("a", "x", "y"), file("b", "abcd"[:sure], "abcd"[sure:]), file("c", "", "z")}}
		for n := range 5 {
			got, err := Cut(d, "b", n)
			tell(t, "Cut", err, api.OK)
			is := min(sure, n)
			same(t, "Cut", got, api.Disk{Files: []api.File{d.Files[0], file("b", "abcd"[:is], "abcd"[is:n]), d.Files[2]}})
		}
		for _, n := range []int{-1, 5, 6, math.MinInt, math.MaxInt} {
			got, err := Cut(d, "b", n)
			tell(t, "Cut out of range", err, api.ErrRange)
			same(t, "Cut out of range", got, d)
			_, err = Cut(d, "none", n)
			tell(t, "Cut of none, out of range", err, api.ErrNone)
		}
	}
}

// P6.2: renamed to its own name, to one that is free, ahead of all others, amid them, behind them, and to one that another file has.
func TestRename(t *testing.T) {
	a, b, c := file("b", "1", "2"), file("d", "", "345"), file("f", "67", "")
	as := func(f api.File, name string) api.File { f.Name = name; return f }
	for _, l := range []struct {
		from, to string
		want     []api.File
	}{
		{"b", "b", []api.File{a, b, c}}, {"d", "d", []api.File{a, b, c}}, {"f", "f", []api.File{a, b, c}},
		{"b", "d", []api.File{as(a, "d"), c}}, {"b", "f", []api.File{b, as(a, "f")}}, {"d", "b", []api.File{as(b, "b"), c}},
		{"d", "f", []api.File{a, as(b, "f")}}, {"f", "b", []api.File{as(c, "b"), b}}, {"f", "d", []api.File{a, as(c, "d")}},
		{"b", "a", []api.File{as(a, "a"), b, c}}, {"b", "c", []api.File{as(a, "c"), b, c}}, {"b", "e", []api.File{b, as(a, "e"), c}}, {"b", "g", []api.File{b, c, as(a, "g")}},
		{"d", "a", []api.File{as(b, "a"), a, c}}, {"d", "c", []api.File{a, as(b, "c"), c}}, {"d", "g", []api.File{a, c, as(b, "g")}},
		{"f", "a", []api.File{as(c, "a"), a, b}}, {"f", "c", []api.File{a, as(c, "c"), b}}, {"f", long(32), []api.File{a, b, as(c, long(32))}},
	} {
		got, err := Rename(api.Disk{Files: []api.File{a, b, c}, Cap: 1}, l.from, l.to)
		tell(t, "Rename of "+l.from+" to "+l.to, err, api.OK)
		same(t, "Rename of "+l.from+" to "+l.to, got, api.Disk{Files: l.want, Cap: 1})
	}
	one := api.Disk{Files: []api.File{a}}
	for _, to := range []string{"", long(33)} {
		got, err := Rename(one, "b", to)
		tell(t, "Rename to no name", err, api.ErrArg)
		same(t, "Rename to no name", got, one)
		_, err = Rename(one, "none", to)
		tell(t, "Rename of none to no name", err, api.ErrNone)
		_, err = Rename(one, "", to)
		tell(t, "Rename of no name to no name", err, api.ErrNone)
	}
}

// P6.2: a fuse lets as many changes as it was told, also of those that change nothing; errors are none of them; then the disk is Down, and each change is told so.
func TestFuse(t *testing.T) {
	steps := []op{{kind: "create", name: "b"}, {kind: "append", name: "b", data: "12"}, {kind: "append", name: "b"}, {kind: "sync", name: "b"}, {kind: "sync", name: "b"}, {kind: "cut", name: "b", n: 1}, {kind: "cut", name: "b", n: 1}, {kind: "rename", name: "b", to: "b"}, {kind: "rename", name: "b", to: "c"}, {kind: "delete", name: "c"}}
	wrong := []op{{kind: "create"}, {kind: "append", name: "no"}, {kind: "sync", name: "no"}, {kind: "cut", name: "no"}, {kind: "rename", name: "no", to: "b"}, {kind: "delete", name: "no"}}
	for n := range 12 {
		d := Arm(api.Disk{}, n)
		for i, o := range steps {
			for _, w := range wrong {
				got := checked(t, d, w)
				same(t, "behind an error", got, d)
			}
			next, err := run(d, o)
			want := api.OK
			if i >= n {
				want = api.ErrDown
			}
			tell(t, fmt.Sprintf("change %d of a fuse of %d", i, n), err, want)
			if next.Down != (i >= n) || !next.Armed || next.Left != max(n-i-1, 0) {
				t.Fatalf("behind change %d of a fuse of %d: %s", i, n, show(next))
			}
			if i >= n && !slices.Equal(next.Files, d.Files) {
				t.Fatalf("behind the fuse: %s, want %s", show(next), show(d))
			}
			d = next
		}
	}
}

// P6.2: without power nothing is changed, and that error is ahead of all others; what is there is read.
func TestDown(t *testing.T) {
	for _, files := range lists() {
		d := api.Disk{Files: roomy(files), Cap: 3, Down: true, Armed: true, Left: 2}
		for _, o := range ops(files) {
			got, err := run(d, o)
			tell(t, "a change without power", err, api.ErrDown)
			same(t, "a change without power", got, d)
		}
		for _, f := range files {
			if s, err := Read(d, f.Name); s != f.Data || err != api.OK {
				t.Fatalf("Read without power of %q = %q, %d, want %q", f.Name, s, err, f.Data)
			}
		}
	}
}

// P6.3: a fuse of 0, of 1, of many, and below 0; a cap of 0, of 1, of many, and below 0; all else stays.
func TestArmLimit(t *testing.T) {
	for _, d := range all() {
		for _, n := range []int{0, 1, 2, 100, math.MaxInt, -1, -2, math.MinInt} {
			want := d
			want.Armed, want.Left = true, n
			if n < 0 {
				want.Armed, want.Left = false, 0
			}
			same(t, fmt.Sprintf("Arm %d", n), Arm(d, n), want)
			want = d
			want.Cap = n
			if n < 0 {
				want.Cap = 0
			}
			same(t, fmt.Sprintf("Limit %d", n), Limit(d, n), want)
		}
	}
}

// P6.3: a fuse that isn't armed any more lets all changes, whatever Left is.
func TestNotArmed(t *testing.T) {
	for _, d := range []api.Disk{Arm(Arm(api.Disk{}, 0), -1), {}, {Left: 2}} {
		for range 5 {
			next, err := Create(d, "b")
			tell(t, "Create", err, api.OK)
			if next.Left != d.Left || next.Armed || next.Down {
				t.Fatalf("behind Create: %s, was %s", show(next), show(d))
			}
			d, err = Delete(next, "b")
			tell(t, "Delete", err, api.OK)
		}
	}
}

// keeps: numbers for so many files: none, fewer, as many, more; none of the bytes, some, all, more than there are, below 0.
func keeps(n int) [][]int {
	var l [][]int
	for _, count := range []int{0, 1, n / 2, n - 1, n, n + 1, n + 5} {
		if count < 0 {
			continue
		}
		for _, k := range []int{0, 1, 2, 3, 4, 5, 1000, math.MaxInt, -1, math.MinInt} {
			l = append(l, slices.Repeat([]int{k}, count))
		}
		var rise, fall []int
		for i := range count {
			rise, fall = append(rise, i), append(fall, n-i)
		}
		l = append(l, rise, fall)
	}
	return l
}

// P6.3: a crash that keeps none, some, all, more than there are, and below 0, with fewer numbers than files and with more.
func TestCrash(t *testing.T) {
	for _, d := range all() {
		for _, keep := range keeps(len(d.Files)) {
			got := Crash(d, keep)
			if want := behind(d, keep); !alike(got, want) {
				t.Fatalf("Crash %v of %s: %s, want %s", keep, show(d), show(got), show(want))
			}
			if !Right(got) {
				t.Fatalf("behind Crash %v of %s there is what may not be: %s", keep, show(d), show(got))
			}
			same(t, "a crash behind it", Crash(got, nil), got)
		}
	}
}

// P6.3: the chapter's example, and what else is kept of it.
func TestCrashExample(t *testing.T) {
	d := api.Disk{Files: []api.File{file("b", "ab", "cd"), file("c", "", "efg")}, Cap: 9, Armed: true, Down: true}
	for _, l := range []struct {
		keep []int
		b, c string
	}{
		{nil, "ab", ""}, {[]int{0}, "ab", ""}, {[]int{1}, "abc", ""}, {[]int{2}, "abcd", ""}, {[]int{3}, "abcd", ""}, {[]int{-1}, "ab", ""}, {[]int{-1, 2}, "ab", "ef"}, {[]int{1, 1, 1}, "abc", "e"}, {[]int{math.MaxInt, math.MaxInt}, "abcd", "efg"}, {[]int{math.MinInt, math.MinInt}, "ab", ""}, {[]int{0, 3}, "ab", "efg"},
	} {
		same(t, fmt.Sprintf("Crash %v", l.keep), Crash(d, l.keep), api.Disk{Files: []api.File{file("b", l.b, ""), file("c", l.c, "")}, Cap: 9})
	}
}

// deep: a disk that shares no list with d, with all of its list's room.
func deep(d api.Disk) api.Disk {
	d.Files = slices.Clone(d.Files[:cap(d.Files)])
	return d
}

// still fails the test unless d, and its list's spare room, is as it was.
func still(t *testing.T, what string, d, was api.Disk) {
	t.Helper()
	d.Files = d.Files[:cap(d.Files)]
	if !alike(d, was) {
		t.Fatalf("%s changed what was handed in: %s, was %s", what, show(d), show(was))
	}
}

// P6.1, P6.2, P6.3: what is handed in stays as it was, its spare room too.
func TestHandedIn(t *testing.T) {
	for _, d := range all() {
		was := deep(d)
		for _, o := range ops(d.Files) {
			run(d, o)
			still(t, o.kind, d, was)
		}
		for _, keep := range keeps(len(d.Files)) {
			room := append(slices.Clone(keep), 77, 88)
			Crash(d, room[:len(keep)])
			if !slices.Equal(room[:len(keep)], keep) || room[len(keep)] != 77 || room[len(keep)+1] != 88 {
				t.Fatalf("Crash changed its numbers: %v, were %v", room, keep)
			}
			still(t, "Crash", d, was)
		}
		Arm(d, 3)
		Limit(d, 3)
		Used(d)
		Right(d)
		l := Names(d)
		clear(l)
		still(t, "what asks", d, was)
	}
}

// anyOp: a change of a disk of few names, often one that can be done.
func anyOp(r *rand.Rand) op {
	kinds := []string{"create", "append", "append", "append", "sync", "sync", "cut", "rename", "delete"}
	few := []string{"a", "b", "c", "d", "e", "", long(32), long(33)}
	return op{kind: kinds[r.Intn(len(kinds))], name: few[r.Intn(len(few))], to: few[r.Intn(len(few))], data: long(r.Intn(6)), n: r.Intn(8) - 1}
}

// next: the disk behind one more call, of any kind.
func next(t *testing.T, r *rand.Rand, d api.Disk) api.Disk {
	t.Helper()
	switch r.Intn(30) {
	case 0:
		return Arm(d, r.Intn(12)-2)
	case 1:
		return Limit(d, r.Intn(40)-4)
	case 2, 3:
		var keep []int
		for range r.Intn(8) {
			keep = append(keep, r.Intn(6)-1)
		}
		got := Crash(d, keep)
		same(t, "Crash", got, behind(d, keep))
		return got
	}
	return checked(t, d, anyOp(r))
}

// P6.1, P6.2, P6.3: long histories, call by call; each elder disk stays as it was, though an answer shares lists with it.
func TestHistory(t *testing.T) {
	for seed := range 60 {
		r := rand.New(rand.NewSource(int64(seed)))
		d := api.Disk{}
		var elder, was []api.Disk
		for range 300 {
			elder, was = append(elder, d), append(was, deep(d))
			if r.Intn(20) == 0 {
				d = elder[r.Intn(len(elder))]
			}
			d = next(t, r, d)
			if !Right(d) {
				t.Fatalf("there is what may not be: %s", show(d))
			}
		}
		for i := range elder {
			still(t, "a later call", elder[i], was[i])
		}
	}
}

// sure: each file's bytes that are sure.
func sure(d api.Disk) map[string]string {
	m := map[string]string{}
	for _, f := range d.Files {
		m[f.Name] = f.Data[:f.Sure]
	}
	return m
}

// takes: does the op cut the file of that name, delete it, give it another name, or another file its name?
func takes(o op, name string) bool {
	switch o.kind {
	case "cut", "delete":
		return o.name == name
	case "rename":
		return o.name == name || o.to == name
	}
	return false
}

// P6.4: what is sure stays, whatever happens, until it is cut off or deleted, or another file has its name.
func TestSureStays(t *testing.T) {
	for seed := range 100 {
		r := rand.New(rand.NewSource(int64(1000 + seed)))
		d := api.Disk{}
		for range 300 {
			o := anyOp(r)
			got, _ := run(d, o)
			switch r.Intn(8) {
			case 0:
				o = op{kind: "crash"}
				got = Crash(d, []int{1, -1, 2})
			case 1:
				o = op{kind: "arm"}
				got = Limit(Arm(d, r.Intn(9)-1), r.Intn(20))
			}
			now := sure(got)
			for name, s := range sure(d) {
				if !takes(o, name) && !strings.HasPrefix(now[name], s) {
					t.Fatalf("%s: of %s the file %q was sure of %q, and is of %q", o, show(d), name, s, now[name])
				}
			}
			d = got
		}
	}
}

// P6.4: there are never more bytes than Cap, if there weren't.
func TestCapHolds(t *testing.T) {
	full := 0
	for seed := range 60 {
		r := rand.New(rand.NewSource(int64(2000 + seed)))
		d := api.Disk{Cap: 1 + r.Intn(30)}
		for range 300 {
			got, err := run(d, anyOp(r))
			if err == api.ErrFull {
				full++
			}
			if r.Intn(30) == 0 {
				got = Crash(got, []int{3, 2, 1})
			}
			if bytesOf(got) > got.Cap || got.Cap != d.Cap {
				t.Fatalf("there are too many bytes: %s", show(got))
			}
			d = got
		}
	}
	if full == 0 {
		t.Fatal("it was never full")
	}
}
