package cell_test

import (
	"math"
	"slices"
	"strconv"
	"strings"
	"testing"

	"scriptorium/api"
	"scriptorium/cell"
)

func truth(n int64) cell.Key {
	return cell.Key{Kind: api.CellBool, N: n}
}

func whole(n int64) cell.Key {
	return cell.Key{Kind: api.CellInt, N: n}
}

func text(s string) cell.Key {
	return cell.Key{Kind: api.CellText, S: s}
}

func wantBorder[V any](t *testing.T, what string, table *cell.Table[V], want int64) {
	t.Helper()
	if got := table.Border(); got != want {
		t.Fatalf("19.1: Border %s: %d, want %d", what, got, want)
	}
}

func wantKeys[V any](t *testing.T, what string, table *cell.Table[V], want ...cell.Key) {
	t.Helper()
	if got := table.Keys(); !slices.Equal(got, want) || table.Len() != len(want) {
		t.Fatalf("19.1: Keys %s: %v, Len %d, want %v", what, got, table.Len(), want)
	}
}

func TestDocumentsExamples(t *testing.T) {
	table := cell.New[string]()
	if !table.Put(text("a"), "first") || table.Put(text("a"), "second") {
		t.Error("19.1: Put of a new key is false, or of one that is there true")
	}
	if v, ok := table.Get(text("a")); v != "second" || !ok {
		t.Errorf("19.1: Get after two Puts: %q, %v, want second, true", v, ok)
	}
	if !table.Del(text("a")) || table.Del(text("a")) {
		t.Error("19.1: the first Del of a key is false, or the second one true")
	}
	table.Put(whole(1), "")
	table.Put(whole(3), "")
	wantBorder(t, "with 1 and 3", table, 1)
	table.Put(whole(2), "")
	wantBorder(t, "after Put of 2", table, 3)
	if cell.Text(15) != 1 || cell.Text(16) != 2 {
		t.Errorf("19.1: Text(15): %d, Text(16): %d, want 1 and 2", cell.Text(15), cell.Text(16))
	}
}

func TestNew(t *testing.T) {
	a, b := cell.New[int](), cell.New[int]()
	if a == nil || b == nil || a == b {
		t.Fatal("19.1: New returns no Table of its own")
	}
	wantKeys(t, "of New", a)
	wantBorder(t, "of New", a, 0)
	if v, ok := a.Get(text("")); v != 0 || ok {
		t.Errorf("19.1: Get of a new Table: %d, %v", v, ok)
	}
	if a.Del(whole(0)) {
		t.Error("19.1: Del of a new Table is true")
	}
	a.Put(whole(1), 5)
	wantKeys(t, "of another Table", b)
	wantKeys(t, "of a Table with 1", a, whole(1))
}

// Keys of different kinds are never the same, nor are strings that show the same
// number in another way.
func TestKinds(t *testing.T) {
	long := strings.Repeat("x", api.MaxText)
	keys := []cell.Key{
		truth(0), truth(1),
		whole(0), whole(1), whole(-1), whole(math.MinInt64), whole(math.MaxInt64), whole(1 << 32), whole(1<<32 + 1),
		text(""), text("0"), text("1"), text("01"), text("-1"), text("true"), text("false"), text("a"), text("A"), text("a\x00"), text("\x00a"), text("\xff"), text("\u00e9"), text("e\u0301"), text(" a"), text("a "), text("\n"), text("00"), text(long), text(long + "x"),
	}
	if len(keys) != 29 {
		t.Fatalf("%d keys: each step needs a prime number of them", len(keys))
	}
	for step := 1; step < len(keys); step++ {
		table := cell.New[int]()
		var want []cell.Key
		for i := range keys {
			at := i * step % len(keys)
			if v, ok := table.Get(keys[at]); v != 0 || ok {
				t.Fatalf("19.1: Get(%v) before its Put: %d, %v", keys[at], v, ok)
			}
			if !table.Put(keys[at], at+1) {
				t.Fatalf("19.1: %v is not new", keys[at])
			}
			want = append(want, keys[at])
			wantKeys(t, "of all kinds", table, want...)
		}
		for i, k := range keys {
			if v, ok := table.Get(k); v != i+1 || !ok {
				t.Fatalf("19.1: Get(%v): %d, %v, want %d, true", k, v, ok, i+1)
			}
		}
		for i, k := range keys {
			if !table.Del(k) || table.Del(k) {
				t.Fatalf("19.1: Del(%v) is false, or true a second time", k)
			}
			if v, ok := table.Get(keys[len(keys)-1]); ok != (i < len(keys)-1) || ok && v != len(keys) {
				t.Fatalf("19.1: Get of the last key after %d Dels: %d, %v", i+1, v, ok)
			}
		}
		wantKeys(t, "of an emptied Table", table)
	}
}

// A key that is there keeps its place, whatever it gets; one that is added again comes
// last.
func TestOrder(t *testing.T) {
	table := cell.New[int]()
	a, b, c := text("a"), whole(-7), truth(0)
	for i, k := range []cell.Key{b, a, c, b, a, b} {
		table.Put(k, i)
	}
	wantKeys(t, "after Puts of the same keys", table, b, a, c)
	if v, _ := table.Get(b); v != 5 {
		t.Errorf("19.1: Get of the key put last: %d, want 5", v)
	}
	steps := []struct {
		k    cell.Key
		want []cell.Key
	}{
		{b, []cell.Key{a, c, b}}, // the first one
		{c, []cell.Key{a, b, c}}, // one between
		{c, []cell.Key{a, b, c}}, // the last one
		{a, []cell.Key{b, c, a}},
	}
	for i, s := range steps {
		if !table.Del(s.k) || !table.Put(s.k, 10+i) {
			t.Fatalf("19.1: %v is not removed and new again", s.k)
		}
		wantKeys(t, "after a Del and a Put", table, s.want...)
		if v, ok := table.Get(s.k); v != 10+i || !ok {
			t.Fatalf("19.1: Get of a key that was added again: %d, %v, want %d, true", v, ok, 10+i)
		}
	}
	table.Del(c)
	wantKeys(t, "without one between", table, b, a)
	table.Del(a)
	wantKeys(t, "without the last one", table, b)
	table.Del(b)
	wantKeys(t, "without any", table)
	table.Put(c, 1)
	wantKeys(t, "of a Table that was empty", table, c)
}

// Get, Len, Border and Keys change nothing, and neither do calls for a key that is not
// there.
func TestAsking(t *testing.T) {
	table := cell.New[int]()
	table.Put(whole(2), 20)
	table.Put(whole(1), 10)
	for range 3 {
		if v, ok := table.Get(whole(3)); v != 0 || ok {
			t.Fatalf("19.1: Get of a key that is not there: %d, %v", v, ok)
		}
		if v, ok := table.Get(whole(2)); v != 20 || !ok {
			t.Fatalf("19.1: Get: %d, %v, want 20, true", v, ok)
		}
		if table.Del(whole(3)) || table.Del(text("1")) || table.Del(truth(1)) || table.Del(whole(0)) {
			t.Fatal("19.1: Del of a key that is not there is true")
		}
		wantBorder(t, "with 1 and 2", table, 2)
		wantKeys(t, "with 1 and 2", table, whole(2), whole(1))
	}
}

// A value may be the zero value: the key is there nevertheless.
func TestZeroValues(t *testing.T) {
	table := cell.New[*int]()
	if !table.Put(whole(1), nil) || table.Put(whole(1), nil) {
		t.Error("19.1: Put of nil to a new key is false, or again true")
	}
	if v, ok := table.Get(whole(1)); v != nil || !ok {
		t.Errorf("19.1: Get of nil: %v, %v, want true", v, ok)
	}
	wantBorder(t, "with nil at 1", table, 1)
	wantKeys(t, "with nil at 1", table, whole(1))
	if !table.Del(whole(1)) {
		t.Error("19.1: Del of a key with nil is false")
	}
}

// nested is a value that has a Table of such values.
type nested struct {
	n    int
	part *cell.Table[nested]
}

// Values are of any type, and are given back as they are.
func TestTypes(t *testing.T) {
	lists := cell.New[[]string]()
	l := []string{"a", "b"}
	lists.Put(whole(1), l)
	l[1] = "c"
	if got, ok := lists.Get(whole(1)); !ok || len(got) != 2 || &got[0] != &l[0] {
		t.Errorf("19.1: Get of a slice: %v, %v", got, ok)
	}
	mixed := cell.New[any]()
	mixed.Put(text("n"), 1)
	mixed.Put(text("s"), "one")
	mixed.Put(text("n"), nil)
	if v, ok := mixed.Get(text("n")); v != nil || !ok {
		t.Errorf("19.1: Get of nil: %v, %v", v, ok)
	}
	if v, ok := mixed.Get(text("s")); v != "one" || !ok {
		t.Errorf("19.1: Get of a string: %v, %v", v, ok)
	}
	own := cell.New[nested]()
	own.Put(text("own"), nested{5, own})
	if v, ok := own.Get(text("own")); v.part != own || v.n != 5 || !ok {
		t.Errorf("19.1: Get of a Table from itself: %v", v)
	}
	if v, ok := own.Get(text("none")); v.part != nil || v.n != 0 || ok {
		t.Errorf("19.1: Get of a key that is not there: %v, %v", v, ok)
	}
	empty := cell.New[struct{}]()
	for i := range int64(5) {
		empty.Put(whole(i), struct{}{})
	}
	wantBorder(t, "of values without parts", empty, 4)
	wantKeys(t, "of values without parts", empty, whole(0), whole(1), whole(2), whole(3), whole(4))
}

// Only the integers from 1 on count, in whatever order they come and go.
func TestBorder(t *testing.T) {
	table := cell.New[bool]()
	for _, k := range []cell.Key{whole(0), whole(-1), whole(math.MinInt64), whole(math.MaxInt64), whole(math.MaxInt64 - 1), truth(1), truth(0), text("1"), text(""), whole(2), whole(3), whole(5)} {
		table.Put(k, true)
		wantBorder(t, "without 1", table, 0)
	}
	steps := []struct {
		k    cell.Key
		put  bool
		want int64
	}{
		{whole(1), true, 3}, {whole(4), true, 5}, {whole(4), true, 5}, {text("6"), true, 5}, {whole(7), true, 5},
		{whole(7), false, 5}, {text("1"), false, 5}, {truth(1), false, 5}, {whole(0), false, 5}, {whole(-1), false, 5},
		{whole(5), false, 4}, {whole(5), false, 4}, {whole(2), false, 1}, {whole(4), false, 1}, {whole(2), true, 3},
		{whole(1), false, 0}, {whole(3), false, 0}, {whole(1), true, 2}, {whole(4), true, 2}, {whole(3), true, 4},
		{whole(1), false, 0}, {whole(2), false, 0}, {whole(3), false, 0}, {whole(4), false, 0}, {whole(1), true, 1},
	}
	for i, s := range steps {
		if s.put {
			table.Put(s.k, false)
		} else {
			table.Del(s.k)
		}
		wantBorder(t, "at step "+strconv.Itoa(i), table, s.want)
	}
}

// Integers up to a number are put in each order, and one of them is missing for a
// while.
func TestBorderOfOrders(t *testing.T) {
	const size = 64
	for step := int64(1); step < 2*size; step += 2 {
		table := cell.New[int]()
		there := [size + 2]bool{}
		border := func() int64 {
			n := int64(0)
			for there[n+1] {
				n++
			}
			return n
		}
		for i := range int64(size) {
			n := i*step%size + 1
			table.Put(whole(n), 0)
			there[n] = true
			wantBorder(t, "while integers are put", table, border())
		}
		wantBorder(t, "with all integers", table, size)
		for n := int64(1); n <= size; n++ {
			table.Del(whole(n))
			wantBorder(t, "without an integer", table, n-1)
			table.Put(whole(n), 0)
			wantBorder(t, "with it again", table, size)
		}
		for i := range int64(size) {
			n := i*step%size + 1
			table.Del(whole(n))
			there[n] = false
			wantBorder(t, "while integers are removed", table, border())
		}
	}
}

// What Keys returns belongs to the caller, and stays as it was.
func TestKeysBelongToTheCaller(t *testing.T) {
	table := cell.New[int]()
	table.Put(whole(1), 1)
	table.Put(whole(2), 2)
	before := table.Keys()
	table.Put(whole(3), 3)
	table.Del(whole(1))
	if !slices.Equal(before, []cell.Key{whole(1), whole(2)}) {
		t.Errorf("19.1: Keys that were returned become %v", before)
	}
	mine := table.Keys()
	mine[0], mine[1] = text("x"), text("y")
	_ = append(mine[:1], text("z"))
	wantKeys(t, "after changes of what was returned", table, whole(2), whole(3))
	if _, ok := table.Get(text("x")); ok {
		t.Error("19.1: a change of what Keys returned adds a key")
	}
}

func TestText(t *testing.T) {
	want := 1
	for n := range 5000 {
		if n > 0 && n%16 == 0 {
			want++
		}
		if got := cell.Text(n); got != want {
			t.Fatalf("19.1: Text(%d): %d, want %d", n, got, want)
		}
	}
	for n, want := range map[int]int{
		0: 1, 31: 2, 32: 3, api.MaxText: 257, math.MaxInt32: 1 << 27, math.MaxInt: 1 << 59, math.MaxInt - 15: 1 << 59, math.MaxInt - 16: 1<<59 - 1,
		-1: 1, -15: 1, -16: 1, -17: 1, -32: 1, math.MinInt32: 1, math.MinInt + 1: 1, math.MinInt: 1,
	} {
		if got := cell.Text(n); got != want {
			t.Errorf("19.1: Text(%d): %d, want %d", n, got, want)
		}
	}
}

// No call panics: a Table that New did not make is empty, and a nil one stays so.
func TestNotMadeByNew(t *testing.T) {
	var none *cell.Table[int]
	if none.Put(whole(1), 5) || none.Del(whole(1)) {
		t.Error("19.2: a nil Table takes a key")
	}
	if v, ok := none.Get(whole(1)); v != 0 || ok {
		t.Errorf("19.2: Get of a nil Table: %d, %v", v, ok)
	}
	wantKeys(t, "of a nil Table", none)
	wantBorder(t, "of a nil Table", none, 0)

	w := watch(t)
	w.table = new(cell.Table[int])
	w.after("new")
	w.get(whole(1))
	w.del(whole(1))
	w.put(whole(1), 5)
	w.put(text("a"), 6)
	w.del(whole(1))
	w.put(whole(1), 7)
}
