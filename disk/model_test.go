package disk_test

import (
	"math"
	"slices"
	"strings"
	"testing"

	"scriptorium/api"
	"scriptorium/disk"
)

// chance gives the same numbers each time.
type chance uint64

func (c *chance) next() uint64 {
	*c ^= *c << 13
	*c ^= *c >> 7
	*c ^= *c << 17
	return uint64(*c)
}

func (c *chance) below(n int) int {
	return int(c.next() >> 20 % uint64(n))
}

func (c *chance) bytes(count int) []byte {
	b := make([]byte, count)
	for i := range b {
		b[i] = byte(c.next() >> 20)
	}
	return b
}

func newChance() *chance {
	c := chance(88172645463325252)
	return &c
}

// model is the chapter on plain lists: the files in the order of their names, each byte with a mark.
type model struct {
	files []modelFile
	room  int
	down  bool
}

type modelFile struct {
	name  string
	bytes []modelByte
}

type modelByte struct {
	value  byte
	synced bool
}

func (m *model) at(name string) int {
	return slices.IndexFunc(m.files, func(f modelFile) bool { return f.name == name })
}

func (m *model) used() int {
	sum := 0
	for _, f := range m.files {
		sum += len(f.bytes)
	}
	return sum
}

func (m *model) sort() {
	slices.SortFunc(m.files, func(a, b modelFile) int { return strings.Compare(a.name, b.name) })
}

func (m *model) add(name string, b []byte) int {
	if m.down {
		return api.ErrDown
	}
	if len(name) < 1 || len(name) > 64 {
		return api.ErrArg
	}
	if m.used()+len(b) > m.room {
		return api.ErrFull
	}
	if m.at(name) < 0 {
		m.files = append(m.files, modelFile{name: name})
		m.sort()
	}
	f := &m.files[m.at(name)]
	for _, value := range b {
		f.bytes = append(f.bytes, modelByte{value: value})
	}
	return api.OK
}

// cut is Cut, or Sync where all is to remain.
func (m *model) cut(name string, n int, all bool) int {
	if m.down {
		return api.ErrDown
	}
	i := m.at(name)
	if i < 0 {
		return api.ErrNone
	}
	f := &m.files[i]
	if all {
		n = len(f.bytes)
	}
	if n < 0 || n > len(f.bytes) {
		return api.ErrRange
	}
	f.bytes = f.bytes[:n]
	for j := range f.bytes {
		f.bytes[j].synced = true
	}
	return api.OK
}

func (m *model) rename(from, to string) int {
	if m.down {
		return api.ErrDown
	}
	if m.at(from) < 0 {
		return api.ErrNone
	}
	if len(to) < 1 || len(to) > 64 {
		return api.ErrArg
	}
	if from != to {
		if m.at(to) >= 0 {
			m.remove(to)
		}
		m.files[m.at(from)].name = to
		m.sort()
	}
	return api.OK
}

func (m *model) remove(name string) int {
	if m.down {
		return api.ErrDown
	}
	i := m.at(name)
	if i < 0 {
		return api.ErrNone
	}
	m.files = slices.Delete(m.files, i, i+1)
	return api.OK
}

func (m *model) crash(keep int, garble bool) {
	if m.down {
		return
	}
	m.down = true
	for i := range m.files {
		f := &m.files[i]
		var left []modelByte
		kept := 0
		for _, b := range f.bytes {
			if b.synced {
				left = append(left, b)
			} else if kept < keep {
				left = append(left, b)
				kept++
			}
		}
		for j := range left {
			if garble && !left[j].synced && j >= lastSector(len(left)) {
				left[j].value ^= 0xA5
			}
			left[j].synced = true
		}
		f.bytes = left
	}
}

func (m *model) start() int {
	if !m.down {
		return api.ErrDown
	}
	m.down = false
	return api.OK
}

// same holds everything that a Disk tells against the model.
func (m *model) same(t *testing.T, step int, d *disk.Disk) {
	t.Helper()
	var all []string
	for _, f := range m.files {
		all = append(all, f.name)
		synced := 0
		var text []byte
		for _, b := range f.bytes {
			text = append(text, b.value)
			if b.synced {
				synced++
			}
		}
		if d.Size(f.name) != len(text) || d.Synced(f.name) != synced {
			t.Fatalf("step %d: %q has %d bytes, %d synced, want %d, %d", step, f.name, d.Size(f.name), d.Synced(f.name), len(text), synced)
		}
		b, err := d.Read(f.name)
		if m.down {
			if b != nil || err != api.ErrDown {
				t.Fatalf("step %d: Read of a Disk that is down: %d bytes, error %d", step, len(b), err)
			}
		} else if err != api.OK || string(b) != string(text) {
			t.Fatalf("step %d: %q has not the bytes that are wanted, error %d", step, f.name, err)
		}
	}
	if !slices.Equal(d.Names(), all) || d.Used() != m.used() {
		t.Fatalf("step %d: %q with %d bytes, want %q with %d", step, d.Names(), d.Used(), all, m.used())
	}
}

// numbers are ones to keep, to cut to and to make room for.
func numbers() []int {
	return []int{math.MinInt, -1, 0, 1, 2, 500, 511, 512, 513, 1000, 1023, 1024, 1025, 1500, 3000, 6000, math.MaxInt}
}

// step does one thing, chosen by c, to the Disk and to the model.
func (m *model) step(c *chance, d *disk.Disk) (string, int, int) {
	some := append([]string{"a", "b", "log", "new"}, strings.Repeat("n", 64), strings.Repeat("n", 65), "")
	name, other := some[c.below(len(some))], some[c.below(len(some))]
	n := numbers()[c.below(len(numbers()))]
	switch c.below(20) {
	default:
		b := c.bytes(c.below(700))
		return "Append", d.Append(name, b), m.add(name, b)
	case 0, 1, 2:
		return "Sync", d.Sync(name), m.cut(name, 0, true)
	case 3:
		return "Cut", d.Cut(name, n), m.cut(name, n, false)
	case 4:
		near := d.Size(name) - c.below(20)
		return "Cut", d.Cut(name, near), m.cut(name, near, false)
	case 5, 6:
		return "Rename", d.Rename(name, other), m.rename(name, other)
	case 7:
		return "Delete", d.Delete(name), m.remove(name)
	case 8:
		d.Room(n)
		m.room = min(max(n, 0), api.MaxDisk)
		return "Room", 0, 0
	case 9:
		garble := c.below(2) == 0
		d.Crash(n, garble)
		m.crash(n, garble)
		return "Crash", 0, 0
	case 10, 11:
		return "Start", d.Start(), m.start()
	}
}

func TestHistories(t *testing.T) {
	c := newChance()
	for range 60 {
		room := c.below(8000)
		d, m := newDisk(t, room), &model{room: room}
		for i := range 400 {
			what, got, want := m.step(c, d)
			if got != want {
				t.Fatalf("3.1: step %d: %s: error %d, want %d", i, what, got, want)
			}
			m.same(t, i, d)
		}
	}
}

// What was synced is a beginning of each file that no crash shortens or changes, whatever comes after.
func TestSyncedRemains(t *testing.T) {
	c := newChance()
	for range 300 {
		d := newDisk(t, api.MaxDisk)
		var synced, all string
		for range 30 {
			piece := string(c.bytes(c.below(600)))
			add(t, d, "a", piece)
			all += piece
			if c.below(3) == 0 {
				sync(t, d, "a")
				synced = all
			}
			if c.below(4) > 0 {
				continue
			}
			keep := c.below(1500) - 100
			crash(t, d, keep, c.below(2) == 0)
			b, err := d.Read("a")
			if err != api.OK || !strings.HasPrefix(string(b), synced) || len(b) != len(synced)+min(max(keep, 0), len(all)-len(synced)) {
				t.Fatalf("3.4: %d bytes were synced, %d remain, error %d", len(synced), len(b), err)
			}
			all = string(b)
			synced = all
		}
	}
}
