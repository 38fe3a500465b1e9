package disk_test

import (
	"bytes"
	"math"
	"runtime"
	"slices"
	"strings"
	"testing"

	"scriptorium/api"
	"scriptorium/disk"
)

func newDisk(t *testing.T, room int) *disk.Disk {
	t.Helper()
	d, err := disk.New(room)
	if d == nil || err != api.OK {
		t.Fatalf("3.1: New(%d): error %d", room, err)
	}
	return d
}

// wantErr holds the error of the call that what tells against want.
func wantErr(t *testing.T, what string, got, want int) {
	t.Helper()
	if got != want {
		t.Fatalf("%s: error %d, want %d", what, got, want)
	}
}

func add(t *testing.T, d *disk.Disk, name, text string) {
	t.Helper()
	wantErr(t, "3.1: Append("+name+")", d.Append(name, []byte(text)), api.OK)
}

func sync(t *testing.T, d *disk.Disk, name string) {
	t.Helper()
	wantErr(t, "3.1: Sync("+name+")", d.Sync(name), api.OK)
}

// crash crashes and starts d, so that its files can be read again.
func crash(t *testing.T, d *disk.Disk, keep int, garble bool) {
	t.Helper()
	d.Crash(keep, garble)
	wantErr(t, "3.2: Start after a crash", d.Start(), api.OK)
}

// wantFile holds the bytes of a file, and how many of them are synced, against what is wanted.
func wantFile(t *testing.T, what string, d *disk.Disk, name, text string, synced int) {
	t.Helper()
	b, err := d.Read(name)
	wantErr(t, what+": Read("+name+")", err, api.OK)
	if string(b) != text {
		t.Fatalf("%s: %s has %q, want %q", what, name, b, text)
	}
	if d.Size(name) != len(text) || d.Synced(name) != synced {
		t.Fatalf("%s: %s has %d bytes, %d synced, want %d, %d", what, name, d.Size(name), d.Synced(name), len(text), synced)
	}
}

// wantAll holds the names and the number of bytes of all files against what is wanted.
func wantAll(t *testing.T, what string, d *disk.Disk, used int, names ...string) {
	t.Helper()
	if !slices.Equal(d.Names(), names) || d.Used() != used {
		t.Fatalf("%s: %q with %d bytes, want %q with %d", what, d.Names(), d.Used(), names, used)
	}
}

func TestNew(t *testing.T) {
	for _, room := range []int{-1, -2, math.MinInt, api.MaxDisk + 1, 2 * api.MaxDisk, math.MaxInt} {
		if d, err := disk.New(room); d != nil || err != api.ErrRange {
			t.Errorf("3.1: New(%d): %v, error %d", room, d, err)
		}
	}
	for _, room := range []int{0, 1, 511, 512, 1 << 20, api.MaxDisk - 1, api.MaxDisk} {
		d := newDisk(t, room)
		wantAll(t, "3.1: a new Disk", d, 0)
		wantErr(t, "3.1: Start of a new Disk", d.Start(), api.ErrDown)
		wantErr(t, "3.1: one byte more than room", d.Append("a", make([]byte, room+1)), api.ErrFull)
		wantErr(t, "3.1: as many bytes as room", d.Append("a", make([]byte, room)), api.OK)
		wantAll(t, "3.1: a full Disk", d, room, "a")
	}
}

func TestDisksAreSeparate(t *testing.T) {
	one, other := newDisk(t, 10), newDisk(t, 10)
	add(t, one, "a", "abcd")
	one.Crash(0, false)
	wantAll(t, "3.1: the other Disk", other, 0)
	add(t, other, "a", "0123456789")
}

func TestAppend(t *testing.T) {
	d := newDisk(t, 100)
	add(t, d, "b", "abcd")
	wantFile(t, "3.1: a created file", d, "b", "abcd", 0)
	add(t, d, "b", "ef")
	add(t, d, "a", "g")
	add(t, d, "b", "")
	wantErr(t, "3.1: Append of nil", d.Append("b", nil), api.OK)
	wantErr(t, "3.1: Append of nil to a new name", d.Append("c", nil), api.OK)
	add(t, d, "d", "")
	wantFile(t, "3.1: an appended file", d, "b", "abcdef", 0)
	wantFile(t, "3.1: another file", d, "a", "g", 0)
	wantFile(t, "3.1: a file of nil", d, "c", "", 0)
	wantFile(t, "3.1: a file of no bytes", d, "d", "", 0)
	wantAll(t, "3.1: after all", d, 7, "a", "b", "c", "d")
}

// names are those that a file may have; the limit is one of bytes, not of letters.
func names() []string {
	return []string{
		"a", "\x00", "\xff", " ", "/", "..", "log", "new", "é", "a\nb",
		strings.Repeat("n", 63), strings.Repeat("n", 64), strings.Repeat("é", 32), strings.Repeat("\x00", 64), strings.Repeat("\xff", 64),
	}
}

func otherNames() []string {
	return []string{"", strings.Repeat("n", 65), strings.Repeat("é", 32) + "n", strings.Repeat("é", 33), strings.Repeat("\x00", 65), strings.Repeat("n", 5000)}
}

func TestNames(t *testing.T) {
	d := newDisk(t, 100)
	for i, name := range names() {
		add(t, d, name, "x")
		wantFile(t, "3.1: a name", d, name, "x", 0)
		if len(d.Names()) != i+1 {
			t.Fatalf("3.1: the name %q is another's", name)
		}
	}
	rising := names()
	slices.Sort(rising)
	wantAll(t, "3.1: all names", d, len(rising), rising...)
	for _, name := range otherNames() {
		wantErr(t, "3.1: Append to "+name, d.Append(name, []byte("x")), api.ErrArg)
		wantErr(t, "3.1: Append of nothing to "+name, d.Append(name, nil), api.ErrArg)
	}
	wantAll(t, "3.1: after wrong names", d, len(rising), rising...)
}

func TestNamesRise(t *testing.T) {
	d := newDisk(t, 0)
	for _, name := range []string{"b", "ab", "a", "B", "\xff", "a\x00", "", "é", "aa", "10", "9", "\x00"} {
		d.Append(name, nil)
	}
	want := []string{"\x00", "10", "9", "B", "a", "a\x00", "aa", "ab", "b", "é", "\xff"}
	wantAll(t, "3.1: names", d, 0, want...)
	d.Names()[0] = "z"
	wantAll(t, "3.1: names after the answer was changed", d, 0, want...)
	d.Crash(0, true)
	wantAll(t, "3.1: names of a Disk that is down", d, 0, want...)
}

func TestRoomIsForAllFiles(t *testing.T) {
	d := newDisk(t, 10)
	add(t, d, "a", "abcd")
	wantErr(t, "3.1: seven bytes where six fit", d.Append("b", []byte("0123456")), api.ErrFull)
	wantAll(t, "3.1: after ErrFull", d, 4, "a")
	wantErr(t, "3.1: seven bytes to the file itself", d.Append("a", []byte("0123456")), api.ErrFull)
	wantFile(t, "3.1: after ErrFull", d, "a", "abcd", 0)
	add(t, d, "b", "012345")
	wantAll(t, "3.1: a full Disk", d, 10, "a", "b")
	wantErr(t, "3.1: one byte to a full Disk", d.Append("a", []byte("x")), api.ErrFull)
	wantErr(t, "3.1: one byte to a new name", d.Append("c", []byte("x")), api.ErrFull)
	add(t, d, "c", "")
	wantAll(t, "3.1: no bytes to a full Disk", d, 10, "a", "b", "c")
	sync(t, d, "a")
	wantErr(t, "3.1: Rename on a full Disk", d.Rename("c", "e"), api.OK)
	wantAll(t, "3.1: after Rename", d, 10, "a", "b", "e")
}

func TestNoRoom(t *testing.T) {
	d := newDisk(t, 0)
	wantErr(t, "3.1: one byte", d.Append("a", []byte("x")), api.ErrFull)
	wantAll(t, "3.1: after ErrFull", d, 0)
	add(t, d, "a", "")
	wantFile(t, "3.1: without room", d, "a", "", 0)
	sync(t, d, "a")
	wantErr(t, "3.1: Cut", d.Cut("a", 0), api.OK)
	crash(t, d, 5, true)
	wantAll(t, "3.2: after a crash", d, 0, "a")
}

func TestRoomIsFreeAgain(t *testing.T) {
	for _, x := range []struct {
		what string
		free func(d *disk.Disk)
		used int
	}{
		{"Delete", func(d *disk.Disk) { d.Delete("a") }, 6},
		{"Cut", func(d *disk.Disk) { d.Cut("a", 1) }, 7},
		{"Rename", func(d *disk.Disk) { d.Rename("b", "a") }, 6},
		{"Rename", func(d *disk.Disk) { d.Rename("a", "b") }, 4},
		{"Rename", func(d *disk.Disk) { d.Rename("a", "c") }, 10},
		{"Rename", func(d *disk.Disk) { d.Rename("a", "a") }, 10},
		{"Crash", func(d *disk.Disk) { d.Crash(3, true); d.Start() }, 6},
		{"Crash", func(d *disk.Disk) { d.Sync("b"); d.Crash(0, false); d.Start() }, 6},
	} {
		d := newDisk(t, 10)
		add(t, d, "a", "abcd")
		add(t, d, "b", "012345")
		x.free(d)
		if d.Used() != x.used {
			t.Fatalf("3.1: %s leaves %d bytes, want %d", x.what, d.Used(), x.used)
		}
		wantErr(t, "3.1: too many bytes after "+x.what, d.Append("e", make([]byte, 11-x.used)), api.ErrFull)
		wantErr(t, "3.1: enough bytes after "+x.what, d.Append("e", make([]byte, 10-x.used)), api.OK)
	}
}

func TestRoom(t *testing.T) {
	d := newDisk(t, 10)
	add(t, d, "a", "ab")
	d.Room(1)
	wantErr(t, "3.1: Append with less room than used", d.Append("a", []byte("x")), api.ErrFull)
	wantErr(t, "3.1: Append of nothing with less room than used", d.Append("a", nil), api.ErrFull)
	wantErr(t, "3.1: Append of nothing to another name", d.Append("b", nil), api.ErrFull)
	wantAll(t, "3.1: after Room(1)", d, 2, "a")
	wantFile(t, "3.1: after Room(1)", d, "a", "ab", 0)
	sync(t, d, "a")
	d.Room(2)
	add(t, d, "b", "")
	wantErr(t, "3.1: Append with as much room as used", d.Append("a", []byte("x")), api.ErrFull)
	d.Room(3)
	add(t, d, "a", "c")
	wantFile(t, "3.1: after Room(3)", d, "a", "abc", 2)
	d.Crash(0, false)
	d.Room(4)
	wantErr(t, "3.1: Start", d.Start(), api.OK)
	add(t, d, "a", "cd")
	wantErr(t, "3.1: Append beyond what was made room while down", d.Append("a", []byte("e")), api.ErrFull)
}

func TestRoomBeyondItsEnds(t *testing.T) {
	for _, n := range []int{0, -1, math.MinInt} {
		d := newDisk(t, 10)
		d.Room(n)
		wantErr(t, "3.1: a byte without room", d.Append("a", []byte("x")), api.ErrFull)
		wantErr(t, "3.1: no byte without room", d.Append("a", nil), api.OK)
	}
	for _, n := range []int{api.MaxDisk, api.MaxDisk + 1, math.MaxInt} {
		d := newDisk(t, 10)
		d.Room(n)
		wantErr(t, "3.1: more than MaxDisk", d.Append("a", make([]byte, api.MaxDisk+1)), api.ErrFull)
		wantErr(t, "3.1: MaxDisk", d.Append("a", make([]byte, api.MaxDisk)), api.OK)
		wantErr(t, "3.1: a byte more", d.Append("b", []byte("x")), api.ErrFull)
	}
	d := newDisk(t, 10)
	d.Room(api.MaxDisk - 1)
	wantErr(t, "3.1: MaxDisk with a byte less of room", d.Append("a", make([]byte, api.MaxDisk)), api.ErrFull)
	wantErr(t, "3.1: MaxDisk less a byte", d.Append("a", make([]byte, api.MaxDisk-1)), api.OK)
}

func TestSync(t *testing.T) {
	d := newDisk(t, 100)
	add(t, d, "a", "abcd")
	add(t, d, "b", "01")
	sync(t, d, "a")
	wantFile(t, "3.1: a synced file", d, "a", "abcd", 4)
	wantFile(t, "3.1: another file", d, "b", "01", 0)
	add(t, d, "a", "ef")
	wantFile(t, "3.1: bytes after Sync", d, "a", "abcdef", 4)
	sync(t, d, "a")
	sync(t, d, "a")
	wantFile(t, "3.1: the second Sync", d, "a", "abcdef", 6)
	for _, name := range append(otherNames(), "c", "A") {
		wantErr(t, "3.1: Sync of no file", d.Sync(name), api.ErrNone)
	}
	wantAll(t, "3.1: after Sync", d, 8, "a", "b")
}

func TestCut(t *testing.T) {
	for n := range 5 {
		for synced := range 5 {
			d := newDisk(t, 100)
			add(t, d, "a", "abcd"[:synced])
			sync(t, d, "a")
			add(t, d, "a", "abcd"[synced:])
			add(t, d, "b", "01")
			wantErr(t, "3.1: Cut", d.Cut("a", n), api.OK)
			wantFile(t, "3.1: a cut file", d, "a", "abcd"[:n], n)
			add(t, d, "a", "xy")
			wantFile(t, "3.1: bytes after Cut", d, "a", "abcd"[:n]+"xy", n)
			crash(t, d, 1, false)
			wantFile(t, "3.1: a crash after Cut", d, "a", "abcd"[:n]+"x", n+1)
			wantFile(t, "3.1: another file", d, "b", "0", 1)
		}
	}
}

func TestCutRefused(t *testing.T) {
	d := newDisk(t, 100)
	add(t, d, "a", "abcd")
	for _, n := range []int{5, 6, -1, math.MaxInt, math.MinInt} {
		wantErr(t, "3.1: Cut outside the file", d.Cut("a", n), api.ErrRange)
		wantErr(t, "3.1: Cut outside no file", d.Cut("b", n), api.ErrNone)
	}
	for _, name := range append(otherNames(), "b") {
		wantErr(t, "3.1: Cut of no file", d.Cut(name, 0), api.ErrNone)
	}
	wantFile(t, "3.1: after wrong Cuts", d, "a", "abcd", 0)
	wantAll(t, "3.1: after wrong Cuts", d, 4, "a")
}

func TestRename(t *testing.T) {
	for _, to := range names() {
		d := newDisk(t, 100)
		add(t, d, "from", "ab")
		sync(t, d, "from")
		add(t, d, "from", "cd")
		wantErr(t, "3.1: Rename", d.Rename("from", to), api.OK)
		wantFile(t, "3.1: a renamed file", d, to, "abcd", 2)
		wantAll(t, "3.1: after Rename", d, 4, to)
		add(t, d, "from", "x")
		wantFile(t, "3.1: a new file of the old name", d, "from", "x", 0)
		wantFile(t, "3.1: the renamed file beside it", d, to, "abcd", 2)
	}
}

func TestRenameInPlaceOfAnother(t *testing.T) {
	d := newDisk(t, 100)
	add(t, d, "a", "012345")
	sync(t, d, "a")
	add(t, d, "b", "abc")
	add(t, d, "c", "x")
	wantErr(t, "3.1: Rename", d.Rename("b", "a"), api.OK)
	wantFile(t, "3.1: in place of another", d, "a", "abc", 0)
	wantAll(t, "3.1: in place of another", d, 4, "a", "c")
	add(t, d, "a", "d")
	wantFile(t, "3.1: bytes after Rename", d, "a", "abcd", 0)
	if d.Size("b") != 0 {
		t.Fatal("3.1: the old name has bytes")
	}
	wantErr(t, "3.1: Sync of the old name", d.Sync("b"), api.ErrNone)
	crash(t, d, 0, false)
	wantAll(t, "3.3: a crash after Rename", d, 0, "a", "c")
}

func TestRenameToTheSameName(t *testing.T) {
	d := newDisk(t, 100)
	add(t, d, "a", "ab")
	sync(t, d, "a")
	add(t, d, "a", "cd")
	wantErr(t, "3.1: Rename to the same name", d.Rename("a", "a"), api.OK)
	wantFile(t, "3.1: renamed to the same name", d, "a", "abcd", 2)
	wantAll(t, "3.1: renamed to the same name", d, 4, "a")
	wantErr(t, "3.1: Rename of no file to the same name", d.Rename("b", "b"), api.ErrNone)
	wantErr(t, "3.1: Rename of the empty name to itself", d.Rename("", ""), api.ErrNone)
}

func TestRenameRefused(t *testing.T) {
	d := newDisk(t, 100)
	add(t, d, "a", "ab")
	sync(t, d, "a")
	add(t, d, "a", "cd")
	for _, name := range otherNames() {
		wantErr(t, "3.1: Rename to "+name, d.Rename("a", name), api.ErrArg)
		wantErr(t, "3.1: Rename of no file to "+name, d.Rename("b", name), api.ErrNone)
		wantErr(t, "3.1: Rename from "+name, d.Rename(name, "a"), api.ErrNone)
	}
	wantFile(t, "3.1: after wrong Renames", d, "a", "abcd", 2)
	wantAll(t, "3.1: after wrong Renames", d, 4, "a")
}

func TestDelete(t *testing.T) {
	d := newDisk(t, 100)
	add(t, d, "a", "abcd")
	add(t, d, "b", "01")
	sync(t, d, "a")
	wantErr(t, "3.1: Delete", d.Delete("a"), api.OK)
	wantAll(t, "3.1: after Delete", d, 2, "b")
	if d.Size("a") != 0 || d.Synced("a") != 0 {
		t.Fatalf("3.1: a deleted file has %d bytes, %d synced", d.Size("a"), d.Synced("a"))
	}
	wantErr(t, "3.1: the second Delete", d.Delete("a"), api.ErrNone)
	add(t, d, "a", "x")
	wantFile(t, "3.1: a new file of the name", d, "a", "x", 0)
	for _, name := range append(otherNames(), "c") {
		wantErr(t, "3.1: Delete of no file", d.Delete(name), api.ErrNone)
	}
	wantAll(t, "3.1: after wrong Deletes", d, 3, "a", "b")
}

func TestRead(t *testing.T) {
	d := newDisk(t, 100)
	add(t, d, "a", "abcd")
	wantFile(t, "3.1: Read", d, "a", "abcd", 0)
	add(t, d, "b", "")
	for _, name := range append(otherNames(), "c") {
		b, err := d.Read(name)
		if b != nil || err != api.ErrNone {
			t.Fatalf("3.1: Read(%q): %q, error %d", name, b, err)
		}
		if d.Size(name) != 0 || d.Synced(name) != 0 {
			t.Fatalf("3.1: Size(%q) %d, Synced %d", name, d.Size(name), d.Synced(name))
		}
	}
	wantAll(t, "3.1: after Read", d, 4, "a", "b")
}

func TestBytesAreCopies(t *testing.T) {
	d := newDisk(t, 100)
	handed := append(make([]byte, 0, 50), "abcd"...)
	wantErr(t, "3.1: Append", d.Append("a", handed), api.OK)
	wantErr(t, "3.1: Append", d.Append("b", handed), api.OK)
	clear(handed)
	wantFile(t, "3.1: after the argument was changed", d, "a", "abcd", 0)
	add(t, d, "a", "ef")
	wantFile(t, "3.1: the other file", d, "b", "abcd", 0)
	if !bytes.Equal(handed[:6], make([]byte, 6)) {
		t.Fatalf("3.1: Append wrote behind its argument: %q", handed[:6])
	}
	for _, first := range []string{"a", "b"} {
		answer, _ := d.Read(first)
		other, _ := d.Read(first)
		clear(answer)
		if string(other[:4]) != "abcd" {
			t.Fatal("3.1: two answers of Read share their bytes")
		}
		_ = append(answer[:1], "xyz"...)
	}
	wantFile(t, "3.1: after the answer was changed", d, "a", "abcdef", 0)
	wantFile(t, "3.1: after the answer was changed", d, "b", "abcd", 0)
	whole, _ := d.Read("a")
	wantErr(t, "3.1: Append of a file to itself", d.Append("a", whole), api.OK)
	wantFile(t, "3.1: appended to itself", d, "a", "abcdefabcdef", 0)
	d.Rename("a", "c")
	wantErr(t, "3.1: Cut", d.Cut("c", 2), api.OK)
	add(t, d, "c", "__________")
	if string(whole) != "abcdef" {
		t.Fatalf("3.1: an answer of Read became %q", whole)
	}
}

// Every call of a Disk that is down, with arguments that would give each other error as well.
func TestDown(t *testing.T) {
	d := newDisk(t, 10)
	add(t, d, "b", "0123")
	sync(t, d, "b")
	add(t, d, "b", "45")
	add(t, d, "a", "ab")
	d.Crash(1, false)
	for _, name := range append(otherNames(), "a", "b", "c") {
		wantErr(t, "3.1: Append, down", d.Append(name, nil), api.ErrDown)
		wantErr(t, "3.1: Append, down, too much", d.Append(name, make([]byte, 11)), api.ErrDown)
		wantErr(t, "3.1: Sync, down", d.Sync(name), api.ErrDown)
		wantErr(t, "3.1: Cut, down", d.Cut(name, 0), api.ErrDown)
		wantErr(t, "3.1: Cut, down, below none", d.Cut(name, -1), api.ErrDown)
		wantErr(t, "3.1: Rename, down", d.Rename(name, "c"), api.ErrDown)
		wantErr(t, "3.1: Rename, down, to no name", d.Rename(name, ""), api.ErrDown)
		wantErr(t, "3.1: Delete, down", d.Delete(name), api.ErrDown)
		if b, err := d.Read(name); b != nil || err != api.ErrDown {
			t.Fatalf("3.1: Read(%q), down: %q, error %d", name, b, err)
		}
	}
	wantAll(t, "3.1: down", d, 6, "a", "b")
	if d.Size("a") != 1 || d.Size("b") != 5 || d.Synced("a") != 1 || d.Synced("b") != 5 || d.Size("c") != 0 || d.Synced("c") != 0 {
		t.Fatal("3.1: Size and Synced of a Disk that is down")
	}
	wantErr(t, "3.2: Start", d.Start(), api.OK)
	wantFile(t, "3.2: up again", d, "a", "a", 1)
	wantFile(t, "3.2: up again", d, "b", "01234", 5)
	add(t, d, "a", "bcde")
	wantErr(t, "3.1: too many bytes after a start", d.Append("a", []byte("f")), api.ErrFull)
}

func TestFirstError(t *testing.T) {
	d := newDisk(t, 1)
	for _, name := range otherNames() {
		wantErr(t, "3.1: a wrong name before no room", d.Append(name, []byte("ab")), api.ErrArg)
	}
	add(t, d, "a", "a")
	d.Room(0)
	wantErr(t, "3.1: a wrong name before no room", d.Append("", nil), api.ErrArg)
	wantErr(t, "3.1: no file before a wrong number", d.Cut("b", 7), api.ErrNone)
	wantErr(t, "3.1: no file before a wrong name", d.Rename("b", ""), api.ErrNone)
}

func TestStart(t *testing.T) {
	d := newDisk(t, 10)
	wantErr(t, "3.2: Start of a Disk that is up", d.Start(), api.ErrDown)
	add(t, d, "a", "ab")
	for range 3 {
		d.Crash(5, false)
		wantErr(t, "3.2: the first Start", d.Start(), api.OK)
		wantErr(t, "3.2: the second Start", d.Start(), api.ErrDown)
		wantFile(t, "3.2: after Start", d, "a", "ab", 2)
	}
}

func TestCrashKeeps(t *testing.T) {
	for _, x := range []struct{ keep, left int }{
		{0, 4}, {1, 5}, {2, 6}, {3, 7}, {4, 8}, {5, 8}, {100, 8}, {-1, 4}, {-4, 4}, {-5, 4}, {math.MinInt, 4}, {math.MaxInt, 8}, {math.MaxInt - 4, 8},
	} {
		d := newDisk(t, 100)
		add(t, d, "a", "abcd")
		add(t, d, "synced", "xyz")
		add(t, d, "b", "01234567")
		sync(t, d, "a")
		sync(t, d, "synced")
		add(t, d, "a", "efgh")
		crash(t, d, x.keep, false)
		wantFile(t, "3.2: after a crash", d, "a", "abcdefgh"[:x.left], x.left)
		wantFile(t, "3.2: a synced file", d, "synced", "xyz", 3)
		unsynced := min(max(x.keep, 0), 8)
		wantFile(t, "3.2: a file that was never synced", d, "b", "01234567"[:unsynced], unsynced)
		wantAll(t, "3.2: after a crash", d, x.left+3+unsynced, "a", "b", "synced")
	}
}

func TestCrashOfWhatIsDown(t *testing.T) {
	d := newDisk(t, 100)
	add(t, d, "a", "abcd")
	d.Crash(3, true)
	d.Crash(0, true)
	d.Crash(-1, false)
	wantErr(t, "3.2: Start after three crashes", d.Start(), api.OK)
	wantFile(t, "3.2: after three crashes", d, "a", spoilt("abc", 0), 3)
	// All that remained is synced: the next crash takes and spoils none of it.
	crash(t, d, 0, true)
	wantFile(t, "3.2: after the next crash", d, "a", spoilt("abc", 0), 3)
	add(t, d, "a", "de")
	crash(t, d, 1, true)
	wantFile(t, "3.2: after a crash of more", d, "a", spoilt("abc", 0)+spoilt("d", 0), 4)
}

// spoilt returns text with each byte from first on changed as garble does.
func spoilt(text string, first int) string {
	b := []byte(text)
	for i := range b {
		if i >= first {
			b[i] ^= 0xA5
		}
	}
	return string(b)
}

// lastSector is the last multiple of 512 that is below size, found by counting.
func lastSector(size int) int {
	at := 0
	for at+512 < size {
		at += 512
	}
	return at
}

// sizes lie around the beginnings of sectors, and within them.
func sizes() []int {
	return []int{0, 1, 2, 255, 510, 511, 512, 513, 514, 700, 1023, 1024, 1025, 1535, 1536, 1537, 2047, 2048, 2049}
}

func TestGarble(t *testing.T) {
	text := string(newChance().bytes(2049))
	for _, size := range sizes() {
		for _, synced := range sizes() {
			if synced > size {
				continue
			}
			for _, keep := range append(sizes(), -1, math.MaxInt, size-synced) {
				left := min(size, synced+min(max(keep, 0), 5000))
				d := newDisk(t, 5000)
				add(t, d, "a", text[:synced])
				sync(t, d, "a")
				add(t, d, "a", text[synced:size])
				crash(t, d, keep, true)
				want := spoilt(text[:left], max(synced, lastSector(left)))
				if b, _ := d.Read("a"); string(b) != want || d.Synced("a") != left {
					t.Fatalf("3.2: %d of %d bytes synced, Crash(%d, true) leaves %d bytes, %d synced", synced, size, keep, len(b), d.Synced("a"))
				}
			}
		}
	}
}

func TestGarbleAtSectors(t *testing.T) {
	for _, x := range []struct{ synced, size, first int }{
		{0, 1, 0}, {0, 511, 0}, {0, 512, 0}, {0, 513, 512}, {0, 1024, 512}, {0, 1025, 1024},
		{1, 512, 1}, {511, 512, 511}, {511, 513, 512}, {512, 513, 512}, {512, 1024, 512}, {513, 1024, 513}, {600, 1025, 1024}, {512, 512, 512}, {1030, 1100, 1030},
	} {
		text := strings.Repeat("x", x.size)
		d := newDisk(t, 5000)
		add(t, d, "a", text[:x.synced])
		sync(t, d, "a")
		add(t, d, "a", text[x.synced:])
		crash(t, d, x.size, true)
		wantFile(t, "3.2: spoilt", d, "a", text[:x.first]+strings.Repeat("\xdd", x.size-x.first), x.size)
	}
}

func TestGarbleOfEachFile(t *testing.T) {
	d := newDisk(t, 5000)
	text := strings.Repeat("x", 600)
	add(t, d, "long", text)
	add(t, d, "short", "abc")
	add(t, d, "synced", text)
	add(t, d, "none", "")
	sync(t, d, "synced")
	crash(t, d, 1000, true)
	wantFile(t, "3.2: a long file", d, "long", spoilt(text, 512), 600)
	wantFile(t, "3.2: a short file", d, "short", spoilt("abc", 0), 3)
	wantFile(t, "3.2: a synced file", d, "synced", text, 600)
	wantFile(t, "3.2: a file without bytes", d, "none", "", 0)
}

func TestFilesThemselvesAreNotLost(t *testing.T) {
	for _, keep := range []int{-1, 0, 1, 100} {
		for _, garble := range []bool{false, true} {
			d := newDisk(t, 100)
			add(t, d, "created", "")
			add(t, d, "begun", "x")
			sync(t, d, "begun")
			add(t, d, "deleted", "x")
			sync(t, d, "deleted")
			add(t, d, "from", "old")
			sync(t, d, "from")
			add(t, d, "to", "new")
			sync(t, d, "to")
			add(t, d, "other", "x")
			d.Delete("deleted")
			d.Rename("from", "to")
			d.Rename("other", "another")
			crash(t, d, keep, garble)
			used := 4 + min(max(keep, 0), 1)
			wantAll(t, "3.3: after a crash", d, used, "another", "begun", "created", "to")
			wantFile(t, "3.3: a renamed file", d, "to", "old", 3)
		}
	}
}

func TestAFileOfUnsyncedBytesIsCreatedForGood(t *testing.T) {
	d := newDisk(t, 100)
	add(t, d, "a", "abcd")
	crash(t, d, 0, true)
	wantAll(t, "3.3: after a crash", d, 0, "a")
	wantFile(t, "3.3: after a crash", d, "a", "", 0)
}

// What no Disk answers the chapter does not say; that no call panics DOC.md says, rule 1.
func TestNoDisk(t *testing.T) {
	var d *disk.Disk
	if d.Append("a", nil) != api.ErrArg || d.Sync("a") != api.ErrArg || d.Cut("a", 0) != api.ErrArg || d.Rename("a", "b") != api.ErrArg ||
		d.Delete("a") != api.ErrArg || d.Start() != api.ErrArg {
		t.Error("3.1: errors of no Disk")
	}
	if b, err := d.Read("a"); b != nil || err != api.ErrArg {
		t.Errorf("3.1: Read of no Disk: %q, error %d", b, err)
	}
	d.Room(5)
	d.Crash(5, true)
	if d.Size("a") != 0 || d.Synced("a") != 0 || d.Used() != 0 || len(d.Names()) != 0 {
		t.Error("3.1: files of no Disk")
	}
}

func TestDiskThatNewDidNotMake(t *testing.T) {
	var d disk.Disk
	wantAll(t, "3.1: no files", &d, 0)
	wantErr(t, "3.1: Start", d.Start(), api.ErrDown)
	wantErr(t, "3.1: Sync", d.Sync("a"), api.ErrNone)
	wantErr(t, "3.1: Cut", d.Cut("a", 0), api.ErrNone)
	wantErr(t, "3.1: Rename", d.Rename("a", "b"), api.ErrNone)
	wantErr(t, "3.1: Delete", d.Delete("a"), api.ErrNone)
	wantErr(t, "3.1: Append", d.Append("a", []byte("x")), api.ErrFull)
	crash(t, &d, 5, true)
	d.Room(1)
	add(t, &d, "a", "x")
	wantFile(t, "3.1: with room", &d, "a", "x", 0)
}

func TestManyFiles(t *testing.T) {
	d := newDisk(t, 0)
	for i := range 50000 {
		if err := d.Append(string([]byte{byte(i >> 8), byte(i)}), nil); err != api.OK {
			t.Fatalf("3.1: file %d: error %d", i, err)
		}
	}
	crash(t, d, 5, true)
	if len(d.Names()) != 50000 || !slices.IsSorted(d.Names()) {
		t.Fatalf("3.1: %d files", len(d.Names()))
	}
}

// heap returns how many bytes are in use.
func heap() int {
	runtime.GC()
	var m runtime.MemStats
	runtime.ReadMemStats(&m)
	return int(m.HeapAlloc)
}

// Files may be cut, or lose their ends, again and again: memory must be taken by what they still have only.
func TestLostBytesAreNotKept(t *testing.T) {
	for _, x := range []struct {
		what string
		lose func(d *disk.Disk, name string)
	}{
		{"Cut", func(d *disk.Disk, name string) { d.Cut(name, 1) }},
		{"Crash", func(d *disk.Disk, _ string) { d.Crash(1, false); d.Start() }},
	} {
		before := heap()
		d := newDisk(t, 1<<20+100)
		for i := range 50 {
			name := string([]byte{'a', byte(i)})
			wantErr(t, "3.1: Append", d.Append(name, make([]byte, 1<<20)), api.OK)
			x.lose(d, name)
		}
		if more := heap() - before; more > 10<<20 {
			t.Errorf("3.1: %d bytes take %d bytes of memory after %s", d.Used(), more, x.what)
		}
	}
}
