package chunk_test

import (
	"slices"
	"testing"

	"scriptorium/chunk"
)

// chance gives the same numbers each time.
type chance uint64

func (c *chance) next() uint64 {
	*c ^= *c << 13
	*c ^= *c >> 7
	*c ^= *c << 17
	return uint64(*c)
}

func (c *chance) below(n int) int {
	return int(c.next() >> 20 % uint64(n))
}

// around gives a place that a Row of that length may have or not have.
func (c *chance) around(size int) int {
	return c.below(2*size+7) - size - 3
}

func newChance(seed int) *chance {
	c := chance(88172645463325252 + 2862933555777941757*uint64(seed))
	return &c
}

// watched is a Row beside a plain list that gets the same calls. Each call holds
// the Row's answer against the list's, and the number of chunks against 7.1.
type watched struct {
	t    *testing.T
	row  *chunk.Row
	list []string
}

func watch(t *testing.T, l ...string) *watched {
	t.Helper()
	w := &watched{t: t, row: chunk.Of(l), list: slices.Clone(l)}
	w.after("Of")
	w.wantAll()
	return w
}

// index is where the list has a place of the Row; -1 if it has none.
func (w *watched) index(i int) int {
	if i < 0 {
		i += len(w.list)
	}
	if i < 0 || i >= len(w.list) {
		return -1
	}
	return i
}

func (w *watched) push(front bool, s string) {
	w.t.Helper()
	w.row.Push(front, s)
	if front {
		w.list = slices.Insert(w.list, 0, s)
	} else {
		w.list = append(w.list, s)
	}
	w.after("Push")
}

func (w *watched) pop(front bool) {
	w.t.Helper()
	i := -1
	if front {
		i = 0
	}
	got, ok := w.row.Pop(front)
	want, wantOK := w.take(i)
	w.want("Pop", i, got, ok, want, wantOK)
	w.after("Pop")
}

func (w *watched) remove(i int) {
	w.t.Helper()
	got, ok := w.row.Remove(i)
	want, wantOK := w.take(i)
	w.want("Remove", i, got, ok, want, wantOK)
	w.after("Remove")
}

// take removes from the list.
func (w *watched) take(i int) (string, bool) {
	i = w.index(i)
	if i < 0 {
		return "", false
	}
	s := w.list[i]
	w.list = slices.Delete(w.list, i, i+1)
	return s, true
}

func (w *watched) at(i int) {
	w.t.Helper()
	got, ok := w.row.At(i)
	want, at := "", w.index(i)
	if at >= 0 {
		want = w.list[at]
	}
	w.want("At", i, got, ok, want, at >= 0)
	w.after("At")
}

func (w *watched) set(i int, s string) {
	w.t.Helper()
	ok, at := w.row.Set(i, s), w.index(i)
	if at >= 0 {
		w.list[at] = s
	}
	w.want("Set", i, "", ok, "", at >= 0)
	w.after("Set")
}

func (w *watched) insert(i int, s string) {
	w.t.Helper()
	ok, may := w.row.Insert(i, s), i >= 0 && i <= len(w.list)
	if may {
		w.list = slices.Insert(w.list, i, s)
	}
	w.want("Insert", i, "", ok, "", may)
	w.after("Insert")
}

// slice goes through the list place by place, so that it shares nothing with how
// a Row cuts its chunks.
func (w *watched) slice(from, to int) {
	w.t.Helper()
	first, last := from, to
	if from < 0 {
		first += len(w.list)
	}
	if to < 0 {
		last += len(w.list)
	}
	var want []string
	for i, s := range w.list {
		if first <= i && i <= last {
			want = append(want, s)
		}
	}
	if got := w.row.Slice(from, to); !slices.Equal(got, want) {
		w.t.Fatalf("7.1: Slice(%d, %d) of %d strings: %q, want %q", from, to, len(w.list), got, want)
	}
}

func (w *watched) want(call string, i int, got string, ok bool, want string, wantOK bool) {
	w.t.Helper()
	if got != want || ok != wantOK {
		w.t.Fatalf("7.1: %s(%d): %q, %v, want %q, %v, with %d strings then", call, i, got, ok, want, wantOK, len(w.list))
	}
}

func (w *watched) after(call string) {
	w.t.Helper()
	size := len(w.list)
	if got := w.row.Len(); got != size {
		w.t.Fatalf("7.1: Len after %s: %d, want %d", call, got, size)
	}
	if n := w.row.Chunks(); n > size/8+2 || 32*n < size {
		w.t.Fatalf("7.1: %d chunks of %d strings after %s", n, size, call)
	}
}

func (w *watched) wantAll() {
	w.t.Helper()
	if got := w.row.All(); !slices.Equal(got, w.list) {
		w.t.Fatalf("7.1: All: %q, want %q", got, w.list)
	}
}

// wantEach asks for every place, from both ends, and for those beyond them.
func (w *watched) wantEach() {
	w.t.Helper()
	for i := -len(w.list) - 3; i < len(w.list)+3; i++ {
		w.at(i)
	}
}
