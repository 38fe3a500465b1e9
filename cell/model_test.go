package cell_test

import (
	"slices"
	"strconv"
	"testing"

	"scriptorium/api"
	"scriptorium/cell"
)

// chance gives the same numbers each time.
type chance uint64

func (c *chance) next() uint64 {
	*c ^= *c << 13
	*c ^= *c >> 7
	*c ^= *c << 17
	return uint64(*c)
}

func (c *chance) below(n int) int {
	return int(c.next() >> 20 % uint64(n))
}

func newChance(seed int) *chance {
	c := chance(88172645463325252 + 2862933555777941757*uint64(seed))
	return &c
}

// pair is a key of a list with its value.
type pair struct {
	key   cell.Key
	value int
}

// watched is a Table beside a list of keys with their values that gets the same calls.
// Each call holds the Table's answer against the list's.
type watched struct {
	t     *testing.T
	table *cell.Table[int]
	list  []pair
	// said is what was called so far.
	said string
}

func watch(t *testing.T) *watched {
	t.Helper()
	w := &watched{t: t, table: cell.New[int]()}
	w.after("New")
	return w
}

// place goes through the list key by key; -1 if the key is not there.
func (w *watched) place(k cell.Key) int {
	return slices.IndexFunc(w.list, func(p pair) bool {
		return p.key.Kind == k.Kind && p.key.N == k.N && p.key.S == k.S
	})
}

// border asks the list for one integer after another.
func (w *watched) border() int64 {
	n := int64(0)
	for w.place(whole(n+1)) >= 0 {
		n++
	}
	return n
}

func (w *watched) keys() []cell.Key {
	var keys []cell.Key
	for _, p := range w.list {
		keys = append(keys, p.key)
	}
	return keys
}

func (w *watched) put(k cell.Key, value int) {
	w.t.Helper()
	at := w.place(k)
	if at < 0 {
		w.list = append(w.list, pair{k, value})
	} else {
		w.list[at].value = value
	}
	if got := w.table.Put(k, value); got != (at < 0) {
		w.t.Fatalf("19.1: Put(%v)%s: %v, want %v", k, w.said, got, at < 0)
	}
	w.after("Put " + print(k))
	w.get(k)
}

func (w *watched) del(k cell.Key) {
	w.t.Helper()
	at := w.place(k)
	if at >= 0 {
		w.list = slices.Delete(w.list, at, at+1)
	}
	if got := w.table.Del(k); got != (at >= 0) {
		w.t.Fatalf("19.1: Del(%v)%s: %v, want %v", k, w.said, got, at >= 0)
	}
	w.after("Del " + print(k))
	w.get(k)
}

func (w *watched) get(k cell.Key) {
	w.t.Helper()
	want, at := 0, w.place(k)
	if at >= 0 {
		want = w.list[at].value
	}
	if got, ok := w.table.Get(k); got != want || ok != (at >= 0) {
		w.t.Fatalf("19.1: Get(%v)%s: %d, %v, want %d, %v", k, w.said, got, ok, want, at >= 0)
	}
}

// after holds what can be asked without a key against the list.
func (w *watched) after(call string) {
	w.t.Helper()
	if w.said += ", " + call; len(w.said) > 200 {
		w.said = ", .." + w.said[len(w.said)-150:]
	}
	if got := w.table.Len(); got != len(w.list) {
		w.t.Fatalf("19.1: Len%s: %d, want %d", w.said, got, len(w.list))
	}
	if got, want := w.table.Border(), w.border(); got != want {
		w.t.Fatalf("19.1: Border%s: %d, want %d", w.said, got, want)
	}
	if got, want := w.table.Keys(), w.keys(); !slices.Equal(got, want) {
		w.t.Fatalf("19.1: Keys%s: %v, want %v", w.said, got, want)
	}
}

func (w *watched) getAll(keys []cell.Key) {
	w.t.Helper()
	for _, k := range keys {
		w.get(k)
	}
}

func print(k cell.Key) string {
	return strconv.Itoa(k.Kind) + "/" + strconv.FormatInt(k.N, 10) + "/" + strconv.Quote(k.S)
}

// Every history of six calls over four keys: a key is added to none, one or more, and
// removed from the front, the end or between, with the border wherever it can be.
func TestEveryShortHistory(t *testing.T) {
	keys := []cell.Key{whole(1), whole(2), whole(3), text("1")}
	calls := 2 * len(keys)
	histories := 1
	for range 6 {
		histories *= calls
	}
	for h := range histories {
		w := watch(t)
		for i, rest := 0, h; i < 6; i, rest = i+1, rest/calls {
			k := keys[rest%calls/2]
			if rest%2 == 0 {
				w.put(k, i+1)
			} else {
				w.del(k)
			}
		}
		w.getAll(keys)
	}
}

// Random histories that fill, change and empty a Table, in turn.
func TestRandomHistories(t *testing.T) {
	for seed := range 60 {
		c := newChance(seed)
		keys := pool(1 + c.below(60))
		w := watch(t)
		for i := range 1200 {
			k := keys[c.below(len(keys))]
			switch fills := i/200%2 == 0; {
			case c.below(10) < 2 == fills:
				w.del(k)
			case c.below(10) == 0:
				w.get(k)
			default:
				w.put(k, i)
			}
			if i%100 == 99 {
				w.getAll(keys)
			}
		}
	}
}

// pool returns keys of all kinds: integers from below 0 on, the strings of these, both
// booleans, and the empty string.
func pool(size int) []cell.Key {
	keys := []cell.Key{truth(0), truth(1), text("")}
	for i := range size {
		n := int64(i - 2)
		keys = append(keys, whole(n), text(strconv.FormatInt(n, 10)))
	}
	return keys
}

// Two Tables with the same calls in another division are the same, and neither knows
// of the other.
func TestTablesOnTheirOwn(t *testing.T) {
	keys := pool(20)
	a, b := watch(t), watch(t)
	c := newChance(7)
	for i := range 2000 {
		w := a
		if c.below(2) == 0 {
			w = b
		}
		k := keys[c.below(len(keys))]
		if c.below(3) == 0 {
			w.del(k)
		} else {
			w.put(k, i)
		}
		a.get(k)
		b.get(k)
	}
	a.after("all calls")
	b.after("all calls")
}

// Of equal calls the answers are equal, however many Tables there are.
func TestSameCallsSameAnswers(t *testing.T) {
	var first []cell.Key
	for round := range 20 {
		table := cell.New[int]()
		c := newChance(3)
		for i := range 500 {
			k := pool(80)[c.below(160)]
			if i%3 == 2 {
				table.Del(k)
			} else {
				table.Put(k, i)
			}
		}
		if round == 0 {
			first = table.Keys()
		}
		if !slices.Equal(table.Keys(), first) {
			t.Fatalf("19.2: Keys of the same calls: %v, want %v", table.Keys(), first)
		}
	}
}

// What no key is by the chapter is kept as any other key, and is neither the boolean,
// the integer nor the string to which a part of it belongs.
func TestOddKeys(t *testing.T) {
	var keys []cell.Key
	for _, kind := range []int{-1, api.CellNil, api.CellBool, api.CellInt, api.CellText, api.CellTable, api.CellCo, 7, 1 << 40} {
		for _, n := range []int64{-1 << 63, -1, 0, 1, 2, 1<<63 - 1} {
			keys = append(keys, cell.Key{Kind: kind, N: n}, cell.Key{Kind: kind, N: n, S: "1"})
		}
	}
	for step := 1; step < len(keys); step += 2 {
		w := watch(t)
		for i := range keys {
			w.put(keys[i*step%len(keys)], i)
		}
		w.getAll(keys)
		for i := range keys {
			w.del(keys[len(keys)-1-i*step%len(keys)])
		}
		w.getAll(keys)
	}
}
