package skip_test

import (
	"bytes"
	"cmp"
	"slices"
	"testing"

	"scriptorium/api"
	"scriptorium/skip"
)

// chance gives the same numbers each time.
type chance uint64

func (c *chance) next() uint64 {
	*c ^= *c << 13
	*c ^= *c >> 7
	*c ^= *c << 17
	return uint64(*c)
}

func (c *chance) below(n int) int {
	return int(c.next() >> 20 % uint64(n))
}

// around returns a position of a list, from either end, or one somewhat beyond it.
func (c *chance) around(size int) int {
	return c.below(2*size+7) - size - 3
}

func newChance(seed int) *chance {
	c := chance(88172645463325252 + 2862933555777941757*uint64(seed))
	return &c
}

// watched is a Set beside an ordered list that gets the same calls. Each call holds
// the Set's answer against the list's, and the number of levels against 8.1.
type watched struct {
	t    *testing.T
	set  *skip.Set
	list []api.Score
}

func watch(t *testing.T, l ...api.Score) *watched {
	t.Helper()
	w := &watched{t: t, set: skip.Of(l)}
	for _, e := range l {
		w.give(e)
	}
	w.after("Of")
	w.wantAll()
	return w
}

// byScore is the order of the chapter: scores first, then the bytes of the names.
func byScore(a, b api.Score) int {
	return cmp.Or(cmp.Compare(a.Score, b.Score), bytes.Compare([]byte(a.Name), []byte(b.Name)))
}

// find goes through the list place by place; -1 if the name is not there.
func (w *watched) find(name string) int {
	for i, e := range w.list {
		if e.Name == name {
			return i
		}
	}
	return -1
}

// give puts e on the list, and reports whether its name is new.
func (w *watched) give(e api.Score) bool {
	i := w.find(e.Name)
	if i >= 0 {
		w.list[i] = e
	} else {
		w.list = append(w.list, e)
	}
	slices.SortFunc(w.list, byScore)
	return i < 0
}

func (w *watched) put(name string, score int64) {
	w.t.Helper()
	e := api.Score{Name: name, Score: score}
	if got, want := w.set.Put(name, score), w.give(e); got != want {
		w.t.Fatalf("8.1: Put(%q, %d): %v, want %v", name, score, got, want)
	}
	w.after("Put")
	w.ask(name)
}

func (w *watched) del(name string) {
	w.t.Helper()
	i := w.find(name)
	if got := w.set.Del(name); got != (i >= 0) {
		w.t.Fatalf("8.1: Del(%q): %v, want %v", name, got, i >= 0)
	}
	if i >= 0 {
		w.list = slices.Delete(w.list, i, i+1)
	}
	w.after("Del")
	w.ask(name)
}

// ask asks for the score and the position of a name.
func (w *watched) ask(name string) {
	w.t.Helper()
	var wantScore int64
	wantRank, at := 0, w.find(name)
	if at >= 0 {
		wantScore, wantRank = w.list[at].Score, at
	}
	if score, ok := w.set.Score(name); score != wantScore || ok != (at >= 0) {
		w.t.Fatalf("8.1: Score(%q) with %d names: %d, %v, want %d, %v", name, len(w.list), score, ok, wantScore, at >= 0)
	}
	if rank, ok := w.set.Rank(name); rank != wantRank || ok != (at >= 0) {
		w.t.Fatalf("8.1: Rank(%q) with %d names: %d, %v, want %d, %v", name, len(w.list), rank, ok, wantRank, at >= 0)
	}
	w.after("Score and Rank")
}

func (w *watched) at(rank int) {
	w.t.Helper()
	i := rank
	if i < 0 {
		i += len(w.list)
	}
	want, wantOK := api.Score{}, i >= 0 && i < len(w.list)
	if wantOK {
		want = w.list[i]
	}
	if got, ok := w.set.At(rank); got != want || ok != wantOK {
		w.t.Fatalf("8.1: At(%d) with %d names: %v, %v, want %v, %v", rank, len(w.list), got, ok, want, wantOK)
	}
	w.after("At")
}

// ranged goes through the list place by place, so that it shares nothing with how a
// Set limits positions.
func (w *watched) ranged(from, to int) {
	w.t.Helper()
	first, last := from, to
	if from < 0 {
		first += len(w.list)
	}
	if to < 0 {
		last += len(w.list)
	}
	var want []api.Score
	for i, e := range w.list {
		if first <= i && i <= last {
			want = append(want, e)
		}
	}
	if got := w.set.Range(from, to); !slices.Equal(got, want) {
		w.t.Fatalf("8.1: Range(%d, %d) with %d names: %v, want %v", from, to, len(w.list), got, want)
	}
	w.after("Range")
}

func (w *watched) below(score int64) {
	w.t.Helper()
	want := 0
	for _, e := range w.list {
		if e.Score < score {
			want++
		}
	}
	if got := w.set.Below(score); got != want {
		w.t.Fatalf("8.1: Below(%d) with %d names: %d, want %d", score, len(w.list), got, want)
	}
	w.after("Below")
}

func (w *watched) after(call string) {
	w.t.Helper()
	size := len(w.list)
	if got := w.set.Len(); got != size {
		w.t.Fatalf("8.1: Len after %s: %d, want %d", call, got, size)
	}
	if levels := w.set.Levels(); levels > 20 || size > 0 && levels < 1 || levels < 0 {
		w.t.Fatalf("8.1: %d levels after %s, with %d names", levels, call, size)
	}
}

func (w *watched) wantAll() {
	w.t.Helper()
	if got := w.set.All(); !slices.Equal(got, w.list) {
		w.t.Fatalf("8.1: All: %v, want %v", got, w.list)
	}
}

// wantEach asks for every name and position, from both ends, for positions beyond
// them, and at the bounds of every score.
func (w *watched) wantEach() {
	w.t.Helper()
	for _, e := range w.list {
		w.ask(e.Name)
		for d := range int64(3) {
			// Beyond an end of int64 this is a score of the other end.
			w.below(e.Score + d - 1)
		}
	}
	for i := -len(w.list) - 3; i < len(w.list)+3; i++ {
		w.at(i)
	}
}
