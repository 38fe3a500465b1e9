package table

import (
	"strconv"
	"testing"
)

// inArray counts the names of an array, each of which must stand in its own slot.
func inArray(t *testing.T, s slots, seen map[string]int) int {
	t.Helper()
	count := 0
	for i, e := range s {
		for ; e != nil; e = e.next {
			if at := hash(e.name) % uint64(len(s)); at != uint64(i) {
				t.Fatalf("6.3: %q stands in slot %d of %d, want %d", e.name, i, len(s), at)
			}
			if seen[e.name]++; seen[e.name] > 1 {
				t.Fatalf("6.3: %q stands there twice", e.name)
			}
			count++
		}
	}
	return count
}

// wantArrays holds Slots, Moving and Len against the two arrays, and returns the
// number of names in the first one.
func wantArrays(t *testing.T, a *Table) int {
	t.Helper()
	seen := map[string]int{}
	first, second := inArray(t, a.first, seen), inArray(t, a.second, seen)
	if a.Slots() != len(a.first)+len(a.second) || a.Moving() != (a.second != nil) || a.Len() != first+second {
		t.Fatalf("6.2: Slots %d, Moving %v, Len %d of arrays of %d and %d slots with %d and %d names", a.Slots(), a.Moving(), a.Len(), len(a.first), len(a.second), first, second)
	}
	return first
}

// wantWork makes a call that neither adds nor removes a name, and holds Work
// against the number of names that left the first array. While there are two
// arrays, each call moves some.
func wantWork(t *testing.T, a *Table, call func()) {
	t.Helper()
	before, moving := wantArrays(t, a), a.Moving()
	call()
	left := 0
	if after := wantArrays(t, a); a.Moving() {
		left = after
	}
	want := 0
	if moving {
		want = before - left
	}
	if a.Work() != want || want > 8 || moving && want == 0 {
		t.Fatalf("6.2: Work %d, but %d names left the first array", a.Work(), want)
	}
}

// colliding gives names whose slots are the same, whatever power of two up to
// size is the number of slots.
func colliding(size uint64, count int) []string {
	var names []string
	for i := 0; len(names) < count; i++ {
		if s := strconv.Itoa(i); hash(s)%size == hash("")%size {
			names = append(names, s)
		}
	}
	return names
}

func TestWorkIsWhatLeavesTheFirstArray(t *testing.T) {
	a := New()
	name := func(i int) string { return "n" + strconv.Itoa(i) }
	for i := range 1200 {
		a.Put(name(i), i)
		wantWork(t, a, func() { a.Get(name(i / 2)) })
		wantWork(t, a, func() { a.Put(name(i), i) })
		wantWork(t, a, func() { a.Del("none") })
	}
	for i := range 1200 {
		a.Del(name(i))
		if !a.Moving() || wantArrays(t, a) > 0 {
			wantWork(t, a, func() { a.Get(name(1199)) })
		}
	}
}

// A chain with more names than one call moves is in both arrays for some calls.
func TestLongChains(t *testing.T) {
	names := colliding(1<<12, 400)
	a := New()
	movings, inBoth := 0, 0
	for i, s := range names {
		a.Put(s, i)
		for moving := true; moving; moving = a.Moving() {
			if first := wantArrays(t, a); a.Moving() && first > 0 && first < a.Len() {
				inBoth++
			}
			wantWork(t, a, func() { a.Get(names[i/2]) })
			for j, other := range a.Names() {
				if n := a.peek(other); n < 0 || names[n] != other {
					t.Fatalf("6.3: name %d of %d, %q, has number %d", j, i+1, other, n)
				}
			}
		}
		if a.Work() > 0 {
			movings++
		}
	}
	if movings < 5 || inBoth < 20 {
		t.Errorf("6.2: %d movings, %d times with names in both arrays", movings, inBoth)
	}
	for i, s := range names {
		if n, ok := a.Del(s); n != i || !ok {
			t.Fatalf("6.3: Del(%q): %d, %v, want %d", s, n, ok, i)
		}
		wantArrays(t, a)
		for j := i + 1; j < len(names); j++ {
			if n := a.peek(names[j]); n != j {
				t.Fatalf("6.3: %q has number %d after Del of another, want %d", names[j], n, j)
			}
		}
	}
}

// peek is Get without moving; -1 for what is not in the Table.
func (t *Table) peek(name string) int {
	link := t.find(name)
	if link == nil {
		return -1
	}
	return (*link).n
}

// Changes of names that have moved, of names that have not and of new ones, at
// each state of a moving.
func TestChangesWhileMoving(t *testing.T) {
	for _, names := range [][]string{colliding(1<<12, 300), colliding(1, 300)} {
		for at := 1; at < 200; at += 3 {
			a := New()
			for i, s := range names[:at] {
				a.Put(s, i)
			}
			for i, s := range names[:at] {
				if n, ok := a.Put(s, i+1000); n != i || !ok {
					t.Fatalf("6.3: Put(%q): %d, %v, want %d", s, n, ok, i)
				}
				if n, ok := a.Put(names[at+i%100], i); ok != (i >= 100) || n != max(i-100, 0) {
					t.Fatalf("6.3: Put(%q): %d, %v", names[at+i%100], n, ok)
				}
				if n, ok := a.Del(s); n != i+1000 || !ok {
					t.Fatalf("6.3: Del(%q): %d, %v, want %d", s, n, ok, i+1000)
				}
				if n, ok := a.Get(s); n != 0 || ok {
					t.Fatalf("6.3: Get(%q) after Del: %d, %v", s, n, ok)
				}
				wantArrays(t, a)
			}
		}
	}
}
