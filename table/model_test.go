package table_test

import (
	"maps"
	"slices"
	"testing"

	"scriptorium/table"
)

// chance gives the same numbers each time.
type chance uint64

func (c *chance) next() uint64 {
	*c ^= *c << 13
	*c ^= *c >> 7
	*c ^= *c << 17
	return uint64(*c)
}

func (c *chance) below(n int) int {
	return int(c.next() >> 20 % uint64(n))
}

func newChance(seed int) *chance {
	c := chance(88172645463325252 + 2862933555777941757*uint64(seed))
	return &c
}

// watched is a Table beside a list of names with their numbers that gets the same
// calls. Each call holds the Table against the list, and against what 6.2 says of
// it after any call.
type watched struct {
	t     *testing.T
	table *table.Table
	list  map[string]int
	// largest is the largest Len since the Table was last empty.
	largest int
	// moving is the number of calls since two arrays were first seen, and bound is
	// the most that it may be.
	moving, bound int
	// moved is the number of names that moved since then.
	moved int
	// movings is how often two arrays were seen to become one.
	movings int
}

func watch(t *testing.T) *watched {
	t.Helper()
	w := &watched{t: t, table: table.New(), list: map[string]int{}}
	w.wantAll()
	if w.table.Moving() || w.table.Work() != 0 {
		t.Fatalf("6.2: a new Table: Moving %v, Work %d", w.table.Moving(), w.table.Work())
	}
	return w
}

func (w *watched) put(name string, n int) {
	w.t.Helper()
	moving := w.table.Moving()
	before, had := w.table.Put(name, n)
	want, wantHad := w.list[name]
	w.list[name] = n
	w.want("Put", name, before, had, want, wantHad)
	w.after("Put", moving)
}

func (w *watched) get(name string) {
	w.t.Helper()
	moving := w.table.Moving()
	n, has := w.table.Get(name)
	want, wantHas := w.list[name]
	w.want("Get", name, n, has, want, wantHas)
	w.after("Get", moving)
}

func (w *watched) del(name string) {
	w.t.Helper()
	moving := w.table.Moving()
	before, had := w.table.Del(name)
	want, wantHad := w.list[name]
	delete(w.list, name)
	w.want("Del", name, before, had, want, wantHad)
	w.after("Del", moving)
}

func (w *watched) want(call, name string, n int, ok bool, want int, wantOK bool) {
	w.t.Helper()
	if n != want || ok != wantOK {
		w.t.Fatalf("6.1: %s(%q) with %d names: %d, %v, want %d, %v", call, name, len(w.list), n, ok, want, wantOK)
	}
}

// after holds what is left by a call against 6.2; moving tells whether there were
// two arrays before it.
func (w *watched) after(call string, moving bool) {
	w.t.Helper()
	if got := w.table.Len(); got != len(w.list) {
		w.t.Fatalf("6.1: Len after %s: %d, want %d", call, got, len(w.list))
	}
	if w.largest = max(w.largest, len(w.list)); len(w.list) == 0 {
		w.largest = 0
	}
	slots, work := w.table.Slots(), w.table.Work()
	if slots < 1 || slots > 16+8*w.largest {
		w.t.Fatalf("6.2: %d slots after %s, with %d names at most", slots, call, w.largest)
	}
	if work < 0 || work > 8 {
		w.t.Fatalf("6.2: %s moved %d names", call, work)
	}
	if !moving && !w.table.Moving() && work != 0 {
		w.t.Fatalf("6.2: %s moved %d names, but there is one array", call, work)
	}
	w.count(moving)
}

// count follows a moving from the call that began it to the one that ends it.
func (w *watched) count(moving bool) {
	w.t.Helper()
	if !moving {
		w.moving, w.moved, w.bound = 0, 0, w.table.Len()+w.table.Slots()
	} else {
		w.moving++
	}
	w.moved += w.table.Work()
	if w.table.Moving() && w.moving >= w.bound {
		w.t.Fatalf("6.2: there are still two arrays %d calls after there were %d names and slots", w.moving, w.bound)
	}
	if moving && !w.table.Moving() {
		w.movings++
	}
}

// wantAll holds all names and numbers against the list. It asks a Table only for
// what moves nothing.
func (w *watched) wantAll() {
	w.t.Helper()
	want := slices.Sorted(maps.Keys(w.list))
	if got := w.table.Names(); !slices.Equal(got, want) {
		w.t.Fatalf("6.1: Names with %d names: %q, want %q", len(want), got, want)
	}
	if w.table.Len() != len(want) {
		w.t.Fatalf("6.1: Len: %d, want %d", w.table.Len(), len(want))
	}
}

// getAll asks for every name of the list.
func (w *watched) getAll() {
	w.t.Helper()
	for _, name := range slices.Sorted(maps.Keys(w.list)) {
		w.get(name)
	}
}
