package cell

import (
	"runtime"
	"strconv"
	"strings"
	"testing"
	"unsafe"
	"weak"
)

// wantLinks holds the links of a Table against its map: both ways lead through the same
// keys, each of them once.
func wantLinks[V any](t *testing.T, table *Table[V]) {
	t.Helper()
	count := 0
	var before *slot[V]
	for s := table.first; s != nil; before, s = s, s.after {
		if s.before != before || table.slots[s.key] != s {
			t.Fatalf("19.2: key %d in order, %v, is not linked to the one before it, or is not in the map", count, s.key)
		}
		if count++; count > len(table.slots) {
			t.Fatalf("19.2: more than %d keys follow one another", len(table.slots))
		}
	}
	if table.last != before || count != len(table.slots) {
		t.Fatalf("19.2: %d keys of %d follow one another, and the last one is not the end", count, len(table.slots))
	}
}

func TestLinks(t *testing.T) {
	state := uint64(88172645463325252)
	below := func(n int) int {
		state ^= state << 13
		state ^= state >> 7
		state ^= state << 17
		return int(state >> 20 % uint64(n))
	}
	for range 40 {
		table := New[int]()
		names := 1 + below(40)
		for i := range 600 {
			k := integer(int64(below(names)))
			if below(10) < 3 == (i/200%2 == 0) {
				table.Del(k)
			} else {
				table.Put(k, i)
			}
			wantLinks(t, table)
		}
	}
}

// A Table keeps nothing of what was removed or replaced, nor of the text from which a
// key was cut.
func TestRemovedIsNotKept(t *testing.T) {
	table := New[*[100]byte]()
	var texts []weak.Pointer[byte]
	var values []weak.Pointer[[100]byte]
	put := func(k Key) {
		v := new([100]byte)
		values = append(values, weak.Make(v))
		table.Put(k, v)
	}
	for i := range 200 {
		long := strings.Repeat(strconv.Itoa(1000+i), 100)
		texts = append(texts, weak.Make(unsafe.StringData(long)))
		put(Key{Kind: 3, S: long[:20]})
		put(Key{Kind: 3, S: long[:20]})
	}
	for i, k := range table.Keys() {
		if i%4 != 1 {
			texts = append(texts, weak.Make(unsafe.StringData(k.S)))
			table.Del(k)
		}
	}
	wantLinks(t, table)
	runtime.GC()
	for i, p := range texts {
		if p.Value() != nil {
			t.Errorf("19.2: text %d of %d that the Table does not need is kept", i, len(texts))
		}
	}
	for i, p := range values {
		if kept := i/2%4 == 1 && i%2 == 1; (p.Value() != nil) != kept {
			t.Errorf("19.2: value %d of %d: kept %v, want %v", i, len(values), !kept, kept)
		}
	}
	runtime.KeepAlive(table)
}

// Tables with many keys are filled, asked and emptied from either end in a time that
// grows with their size only.
func TestManyKeys(t *testing.T) {
	const size = 1 << 18
	table := New[int]()
	for i := int64(1); i <= size; i++ {
		table.Put(integer(table.Border()+1), int(i))
		if table.Border() != i {
			t.Fatalf("19.1: Border with %d keys: %d", i, table.Border())
		}
	}
	for i := int64(1); i <= size/2; i++ {
		if !table.Del(integer(i)) || table.Border() != 0 {
			t.Fatalf("19.1: Border without 1 to %d: %d", i, table.Border())
		}
	}
	for i := int64(size / 2); i >= 1; i-- {
		if !table.Put(integer(i), 0) || i > 1 && table.Border() != 0 {
			t.Fatalf("19.1: Border without 1 to %d: %d", i-1, table.Border())
		}
	}
	wantLinks(t, table)
	for i := int64(size); i >= 1; i-- {
		if table.Border() != i || !table.Del(integer(i)) {
			t.Fatalf("19.1: Border with %d keys: %d", i, table.Border())
		}
	}
	if table.first != nil || table.last != nil || table.Len() != 0 || table.Border() != 0 {
		t.Fatal("19.1: a Table is not empty without keys")
	}
}
