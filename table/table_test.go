package table_test

import (
	"math"
	"slices"
	"strconv"
	"strings"
	"testing"
	"unsafe"

	"scriptorium/table"
)

// name gives each number a name of its own.
func name(i int) string { return "n" + strconv.Itoa(i) }

// someNames are unlike each other in one byte, in their lengths or in their order.
func someNames() []string {
	names := []string{
		"", "a", "b", "A", "ab", "ba", "aa", "aaa", "abc", "a ", " a", "a\n", "1", "01", "10", "2",
		"\x00", "\x00\x00", "a\x00", "a\x00b", "\x7f", "\x80", "\xff", "\xff\xff", "\xffa", "é", "é", "ʒ", "日本", "𝔘",
		strings.Repeat("a", 100), strings.Repeat("a", 101), strings.Repeat("x", 5000), strings.Repeat("x", 4999) + "y", "y" + strings.Repeat("x", 4999),
	}
	for b := range 256 {
		names = append(names, string([]byte{'c', byte(b)}), string([]byte{byte(b), 'c', 'd'}))
	}
	return names
}

func wantAnswer(t *testing.T, what string, n int, ok bool, want int, wantOK bool) {
	t.Helper()
	if n != want || ok != wantOK {
		t.Fatalf("%s: %d, %v, want %d, %v", what, n, ok, want, wantOK)
	}
}

func TestDocumentsExamples(t *testing.T) {
	a := table.New()
	n, ok := a.Put("a", 1)
	wantAnswer(t, "6.1: Put(a, 1)", n, ok, 0, false)
	n, ok = a.Put("a", 2)
	wantAnswer(t, "6.1: Put(a, 2)", n, ok, 1, true)
	n, ok = a.Get("a")
	wantAnswer(t, "6.1: Get(a)", n, ok, 2, true)
	n, ok = a.Del("b")
	wantAnswer(t, "6.1: Del of a name that is not in the Table", n, ok, 0, false)
	n, ok = a.Get("b")
	wantAnswer(t, "6.1: Get of a name that is not in the Table", n, ok, 0, false)
	n, ok = a.Del("a")
	wantAnswer(t, "6.1: Del(a)", n, ok, 2, true)
	n, ok = a.Del("a")
	wantAnswer(t, "6.1: the second Del(a)", n, ok, 0, false)
	if a.Len() != 0 || len(a.Names()) != 0 || a.Slots() > 16 {
		t.Errorf("6.2: empty again: Len %d, Names %q, Slots %d", a.Len(), a.Names(), a.Slots())
	}
}

func TestNew(t *testing.T) {
	a, b := table.New(), table.New()
	if a == nil || a.Len() != 0 || len(a.Names()) != 0 || a.Slots() < 1 || a.Slots() > 16 || a.Moving() || a.Work() != 0 {
		t.Fatalf("6.1: New: Len %d, Names %q, Slots %d, Moving %v, Work %d", a.Len(), a.Names(), a.Slots(), a.Moving(), a.Work())
	}
	a.Put("a", 1)
	n, ok := b.Get("a")
	wantAnswer(t, "6.1: Get of another Table", n, ok, 0, false)
}

func TestNilTable(t *testing.T) {
	var none *table.Table
	for range 2 {
		n, ok := none.Put("a", 1)
		wantAnswer(t, "6.1: Put of a nil Table", n, ok, 0, false)
		n, ok = none.Get("a")
		wantAnswer(t, "6.1: Get of a nil Table", n, ok, 0, false)
		n, ok = none.Del("a")
		wantAnswer(t, "6.1: Del of a nil Table", n, ok, 0, false)
		if none.Len() != 0 || len(none.Names()) != 0 || none.Slots() != 0 || none.Moving() || none.Work() != 0 {
			t.Fatalf("6.1: a nil Table: Len %d, Names %q, Slots %d, Moving %v, Work %d", none.Len(), none.Names(), none.Slots(), none.Moving(), none.Work())
		}
	}
}

// A program can make a Table without New: no call of it panics, and it is empty.
func TestTableThatNewDidNotMake(t *testing.T) {
	calls := []func(a *table.Table){
		func(a *table.Table) { a.Get("a") },
		func(a *table.Table) { a.Del("a") },
		func(a *table.Table) { a.Names() },
		func(a *table.Table) {},
	}
	for i, call := range calls {
		var a table.Table
		call(&a)
		if a.Len() != 0 || len(a.Names()) != 0 || a.Slots() > 16 || a.Moving() || a.Work() != 0 {
			t.Fatalf("6.1: call %d: Len %d, Names %q, Slots %d", i, a.Len(), a.Names(), a.Slots())
		}
		w := &watched{t: t, table: &a, list: map[string]int{}}
		for i := range 100 {
			w.put(name(i), i)
		}
		w.getAll()
		w.wantAll()
	}
}

func TestNames(t *testing.T) {
	w := watch(t)
	names := someNames()
	for i, s := range names {
		w.get(s)
		w.put(s, i+1)
		w.wantAll()
	}
	for i, s := range names {
		w.get(s)
		w.put(s, -i)
	}
	w.getAll()
	for i, s := range names {
		if i%2 == 0 {
			w.del(s)
			w.del(s)
			w.wantAll()
		}
	}
	w.getAll()
}

// 0 is a number like others, and not the lack of one.
func TestNumbers(t *testing.T) {
	w := watch(t)
	numbers := []int{0, 1, -1, 0, math.MaxInt, math.MinInt, math.MinInt + 1, 1 << 31, 1 << 32, -1 << 31, -1 << 32, 0}
	for i, n := range numbers {
		w.put("a", n)
		w.get("a")
		w.put(name(i), n)
		w.get(name(i))
	}
	w.getAll()
	for i := range numbers {
		w.del(name(i))
	}
	w.del("a")
	w.wantAll()
}

// The order of names is that of their bytes, whatever they mean, and in whatever
// order they came.
func TestOrderOfNames(t *testing.T) {
	want := []string{"", "\x00", " ", "0", "01", "1", "10", "2", "A", "Z", "a", "a\x00", "aZ", "aa", "b", "\x7f", "é", "日", "𝔘", "\xf8", "\xff", "\xff\x00"}
	for seed := range 50 {
		c, a := newChance(seed), table.New()
		for _, i := range c.order(len(want)) {
			a.Put(want[i], i)
		}
		if got := a.Names(); !slices.Equal(got, want) {
			t.Fatalf("6.1: Names: %q, want %q", got, want)
		}
	}
}

// order gives the numbers below n in an order of its own.
func (c *chance) order(n int) []int {
	order := make([]int, n)
	for i := range order {
		j := c.below(i + 1)
		order[i], order[j] = order[j], i
	}
	return order
}

func TestNamesBelongToTheCaller(t *testing.T) {
	a := table.New()
	for i := range 20 {
		a.Put(name(i), i)
		first := a.Names()
		want := slices.Clone(first)
		clear(first)
		first = append(first[:0], "x", "y")
		if got := a.Names(); !slices.Equal(got, want) || first[0] != "x" {
			t.Fatalf("6.1: Names after its last result was changed: %q, want %q", got, want)
		}
	}
}

// A Table has names of its own, so that no argument is kept.
func TestNamesAreCopies(t *testing.T) {
	a := table.New()
	for _, text := range []string{"a", "abc", strings.Repeat("z", 600)} {
		b := []byte(text)
		a.Put(unsafe.String(&b[0], len(b)), 7)
		a.Put(unsafe.String(&b[0], len(b)), 8)
		b[0] = 'q'
		n, ok := a.Get(text)
		wantAnswer(t, "6.1: Get of a name whose argument was changed", n, ok, 8, true)
		n, ok = a.Get(string(b))
		wantAnswer(t, "6.1: Get of what an argument was changed to", n, ok, 0, false)
	}
}

// All sizes are filled and emptied again, in both orders, and then once more.
func TestFillAndEmpty(t *testing.T) {
	for size := range 300 {
		w := watch(t)
		for _, back := range []bool{false, true} {
			for i := range size {
				w.put(name(i), i)
			}
			w.wantAll()
			for i := range size {
				if back {
					i = size - 1 - i
				}
				w.del(name(i))
			}
			w.wantAll()
			if slots := w.table.Slots(); slots > 16 {
				t.Fatalf("6.2: %d slots of a Table that had %d names and is empty again", slots, size)
			}
			if w.table.Moving() {
				t.Fatal("6.2: a Table that is empty again has two arrays")
			}
		}
	}
}

// In every state of a growing and shrinking Table all names are there.
func TestNamesWhileMoving(t *testing.T) {
	w := watch(t)
	const most = 700
	for i := range most {
		w.put(name(i), i)
		w.wantAll()
	}
	for i := range most {
		w.del(name(i))
		w.wantAll()
	}
	if w.movings < 2*5 {
		t.Errorf("6.2: only %d movings", w.movings)
	}
}

// grown returns a Table into which names were put until there are two arrays, and
// at least as many names as size.
func grown(t *testing.T, size int) *watched {
	t.Helper()
	w := watch(t)
	for i := 0; i < size || !w.table.Moving(); i++ {
		if i > 3*size+100 {
			t.Fatalf("6.2: a Table with %d names never gets a second array", i)
		}
		w.put(name(i), i)
	}
	return w
}

// shrunk returns a Table from which names were removed until there are two arrays,
// with the names from that number on.
func shrunk(t *testing.T, size int) (*watched, int) {
	t.Helper()
	w := watch(t)
	for i := range size {
		w.put(name(i), i)
	}
	for w.table.Moving() {
		w.get("")
	}
	for i := range size {
		w.del(name(i))
		if w.table.Moving() {
			return w, i + 1
		}
	}
	t.Fatalf("6.2: a Table that had %d names never gets a second array as it becomes empty", size)
	return nil, 0
}

// Whatever the calls are for, they move names, and the moving ends; watched holds
// the number of calls against 6.2.
func TestMovingEnds(t *testing.T) {
	for _, size := range []int{1, 10, 17, 100, 1000, 5000} {
		for kind, call := range map[string]func(w *watched, i int){
			"Get of names":       func(w *watched, i int) { w.get(name(i)) },
			"Get of none":        func(w *watched, i int) { w.get("none") },
			"Put of names":       func(w *watched, i int) { w.put(name(i), -1) },
			"Put of new names":   func(w *watched, i int) { w.put("new"+name(i), i) },
			"Del of names":       func(w *watched, i int) { w.del(name(i)) },
			"Del of none":        func(w *watched, i int) { w.del("none") },
			"Put and Del":        func(w *watched, i int) { w.put("new", i); w.del("new") },
			"Del and Put":        func(w *watched, i int) { w.del(name(0)); w.put(name(0), i) },
			"Get of the nearest": func(w *watched, i int) { w.get(name(size - 1 - i)) },
		} {
			t.Run(strconv.Itoa(size)+" "+kind, func(t *testing.T) {
				w := grown(t, size)
				before := w.movings
				for i := 0; w.movings == before; i++ {
					call(w, i)
				}
				w.wantAll()
				w.getAll()
			})
		}
	}
}

// When a Table shrinks, names move as well.
func TestMovingOfAShrinkingTable(t *testing.T) {
	for _, size := range []int{100, 1000, 5000} {
		w, from := shrunk(t, size)
		slots := w.table.Slots()
		for i := from; w.table.Moving(); i++ {
			w.get(name(i))
			w.wantAll()
		}
		w.getAll()
		if w.table.Slots() >= slots {
			t.Errorf("6.2: %d slots after a moving that began with %d", w.table.Slots(), slots)
		}
		w, from = shrunk(t, size)
		for i := from; w.table.Moving(); i++ {
			w.put("new"+name(i), i)
			w.wantAll()
		}
		w.getAll()
	}
}

// Few names that are left do not keep the slots of many.
func TestSlotsOfFewNames(t *testing.T) {
	w := watch(t)
	const most = 20000
	for i := range most {
		w.put(name(i), i)
	}
	large := w.table.Slots()
	for i := range most - 1 {
		w.del(name(i))
	}
	for range large {
		w.get("none")
	}
	if slots := w.table.Slots(); slots > 16+8*2 {
		t.Errorf("6.2: %d slots for one name, of %d for %d names", slots, large, most)
	}
	w.getAll()
	w.wantAll()
}

// The names that move in a Table without other changes are its names, each once;
// that of the Put that began it may have been put into the second array.
func TestWorkCountsNames(t *testing.T) {
	for _, size := range []int{1, 5, 20, 100, 1000, 3000} {
		w := grown(t, size)
		for w.table.Moving() {
			w.get("none")
		}
		if names := w.table.Len(); w.moved != names && w.moved != names-1 {
			t.Errorf("6.2: %d of %d names moved", w.moved, names)
		}
		for range 20 {
			w.get("none")
			if work := w.table.Work(); work != 0 {
				t.Fatalf("6.2: Get moved %d names after the moving", work)
			}
		}
	}
}

// Work tells of the last Put, Get or Del, whatever else was called since then.
func TestWorkIsOfTheLastCall(t *testing.T) {
	a := table.New()
	most := 0
	for i := range 2000 {
		a.Put(name(i), i)
		work, slots, moving := a.Work(), a.Slots(), a.Moving()
		most = max(most, work)
		a.Names()
		a.Len()
		if a.Work() != work || a.Slots() != slots || a.Moving() != moving {
			t.Fatalf("6.2: Names or Len moved names: Work %d, want %d", a.Work(), work)
		}
	}
	if most < 1 {
		t.Error("6.2: no Put moved a name")
	}
}

// The largest Len counts from when the Table was last empty.
func TestSlotsAfterEmptiness(t *testing.T) {
	w := watch(t)
	for _, size := range []int{1, 3000, 2, 9, 500, 1, 40, 5000, 8, 17} {
		for i := range size {
			w.put(name(i), i)
		}
		for i := range size {
			w.del(name(i))
		}
		for i := range 12 {
			w.get(name(i))
		}
	}
	// It may become empty in the middle of a moving too.
	for size := 60; size < 1200; size += 19 {
		w, from := shrunk(t, size)
		for i := from; i < size; i++ {
			w.del(name(i))
		}
		w.wantAll()
		w.put("a", 1)
		w.get("a")
		w.wantAll()
	}
}

// history makes random calls for as many names as size, in phases that fill the
// Table and others that empty it.
func history(w *watched, c *chance, size, calls int) {
	w.t.Helper()
	for i := range calls {
		if i%(size*3) == 0 {
			w.wantAll()
		}
		s, dels := name(c.below(size)), 1
		if i/(size*2)%2 == 1 {
			dels = 6
		}
		switch k := c.below(10); {
		case k < dels:
			w.del(s)
		case k < 8:
			if dels == 1 || k == 7 {
				w.put(s, int(c.next()))
			}
		default:
			w.get(s)
		}
	}
	w.getAll()
	w.wantAll()
}

func TestHistories(t *testing.T) {
	for seed := range 60 {
		c := newChance(seed)
		for _, size := range []int{1, 2, 9, 20, 70, 300} {
			history(watch(t), c, size, 40*size+200)
		}
	}
	for seed := range 3 {
		history(watch(t), newChance(seed), 6000, 100000)
	}
}

// Equal calls give equal results, those of 6.2 among them.
func TestSameCallsSameResults(t *testing.T) {
	a, b := table.New(), table.New()
	c := newChance(1)
	for range 30000 {
		s, n := name(c.below(900)), c.below(100)
		call := func(x *table.Table) (int, bool) {
			switch n % 3 {
			case 0:
				return x.Put(s, n)
			case 1:
				return x.Get(s)
			default:
				return x.Del(s)
			}
		}
		i, iOK := call(a)
		j, jOK := call(b)
		wantAnswer(t, "6.3: the same call", i, iOK, j, jOK)
		if a.Slots() != b.Slots() || a.Work() != b.Work() || a.Moving() != b.Moving() || a.Len() != b.Len() {
			t.Fatalf("6.3: the same calls: Slots %d, %d, Work %d, %d", a.Slots(), b.Slots(), a.Work(), b.Work())
		}
	}
}

func FuzzHistories(f *testing.F) {
	f.Add(strings.Repeat("\x00a\x01a\x02a", 20))
	f.Add(strings.Repeat("\x00a\x00b\x00c\x00d\x02a\x01b", 9))
	f.Fuzz(func(t *testing.T, calls string) {
		w := watch(t)
		for i := 0; i+1 < len(calls); i += 2 {
			s := calls[i+1 : min(i+2+int(calls[i]>>4), len(calls))]
			switch calls[i] & 3 {
			case 0, 3:
				w.put(s, i)
			case 1:
				w.get(s)
			case 2:
				w.del(s)
			}
		}
		w.getAll()
		w.wantAll()
	})
}
