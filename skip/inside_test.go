package skip

import (
	"runtime"
	"strconv"
	"strings"
	"testing"
	"unsafe"
	"weak"

	"scriptorium/api"
)

// wantLinks holds the links of each level against the order of the names: each leads
// to the next name that is as high, with the difference of both positions, or
// nowhere, without a width.
func wantLinks(t *testing.T, s *Set) {
	t.Helper()
	if s.front == nil {
		return
	}
	var order []*node
	for n := s.front[0].to; n != nil; n = n.links[0].to {
		if score, ok := s.scores[n.entry.Name]; !ok || score != n.entry.Score || len(n.links) < 1 || len(n.links) > 20 {
			t.Fatalf("8.1: %v on %d levels, but the score of the name is %d, %v", n.entry, len(n.links), score, ok)
		}
		order = append(order, n)
	}
	if len(order) != len(s.scores) {
		t.Fatalf("8.1: %d names follow one another, of %d", len(order), len(s.scores))
	}
	highest := 0
	for level := range 20 {
		here, at := s.front[level], -1
		for i, n := range order {
			if len(n.links) <= level {
				continue
			}
			if here.to != n || here.width != i-at {
				t.Fatalf("8.1: on level %d the link at %d has the width %d, and does not lead %d further", level, at, here.width, i-at)
			}
			here, at, highest = n.links[level], i, level+1
		}
		if here != (link{}) {
			t.Fatalf("8.1: on level %d the last link leads %d further", level, here.width)
		}
	}
	if s.Levels() != highest {
		t.Fatalf("8.1: Levels %d of names on %d levels", s.Levels(), highest)
	}
}

// Links are as they should be after each call of a random history.
func TestLinksOfHistories(t *testing.T) {
	state := uint64(88172645463325252)
	below := func(n int) int {
		state ^= state << 13
		state ^= state >> 7
		state ^= state << 17
		return int(state >> 20 % uint64(n))
	}
	for round := range 60 {
		s := New()
		names, scores := 1+below(300), 1+below(100)
		for i := range 900 {
			name, fills := strconv.Itoa(below(names)), i/300%2 == 0
			if below(10) < 2 == fills {
				s.Del(name)
			} else {
				s.Put(name, int64(below(scores)))
			}
			wantLinks(t, s)
		}
		if round%10 == 0 && s.Len() > 50 && s.Levels() < 2 {
			t.Errorf("8.1: %d levels of %d names", s.Levels(), s.Len())
		}
	}
}

// Of the names of a level about one in four is on the next one too; none is on more
// than 20.
func TestHeights(t *testing.T) {
	const count = 1 << 20
	var on [most + 2]int
	for i := range uint64(count) {
		h := height(i)
		if h < 1 || h > 20 {
			t.Fatalf("8.1: name %d is on %d levels", i, h)
		}
		for level := range h {
			on[level]++
		}
	}
	for level := range 6 {
		if want := count >> (2 * level); on[level] < want*9/10 || on[level] > want*11/10 {
			t.Errorf("8.1: %d of %d names are on level %d, want about %d", on[level], count, level, want)
		}
	}
	// The mix of this number alone ends with as many zeros as it has bits.
	if h := height(0); h != 20 {
		t.Errorf("8.1: the highest name is on %d levels, want 20", h)
	}
}

// A name may be on all levels that there are; with it they come and go.
func TestHighestName(t *testing.T) {
	for at := range 10 {
		s := New()
		for i := range 9 {
			s.Put(strconv.Itoa(i), int64(i))
		}
		few := s.Levels()
		s.added = 1<<64 - 1
		s.Put("high", int64(at)-1)
		wantLinks(t, s)
		if s.Levels() != 20 {
			t.Fatalf("8.1: %d levels, want 20", s.Levels())
		}
		for i := range 9 {
			s.Put(strconv.Itoa(i), int64(8-i))
			wantLinks(t, s)
		}
		s.Put("high", 4)
		if wantLinks(t, s); s.Levels() != 20 {
			t.Fatalf("8.1: %d levels after the highest name has moved, want 20", s.Levels())
		}
		s.Del("high")
		if wantLinks(t, s); s.Levels() != few {
			t.Fatalf("8.1: %d levels after the highest name has gone, want %d", s.Levels(), few)
		}
	}
}

// steps returns how many names a path to a position asks for.
func steps(s *Set, rank int) int {
	asked := 0
	s.walk(func(_ *node, at int) bool { asked++; return at < rank })
	return asked
}

// wantShort holds that a path asks for few names, to wherever it leads.
func wantShort(t *testing.T, what string, s *Set) {
	t.Helper()
	for rank := range s.Len() {
		if n := steps(s, rank); n > 120 {
			t.Fatalf("8.2: %s: the path to position %d of %d asks for %d names", what, rank, s.Len(), n)
		}
	}
}

// Calls that follow a rule leave no long way without links that lead over it.
func TestRegularCalls(t *testing.T) {
	const size = 1 << 14
	spots := map[string]func(i int) int64{
		"rising":         func(i int) int64 { return int64(i) },
		"falling":        func(i int) int64 { return int64(-i) },
		"both ends":      func(i int) int64 { return int64(i * (i%2*2 - 1)) },
		"four places":    func(i int) int64 { return int64(i%4*size + i) },
		"sixteen places": func(i int) int64 { return int64(i%16*size + i) },
		"one score":      func(int) int64 { return 0 },
	}
	for what, spot := range spots {
		for _, step := range []int{1, 2, 3, 4, 8, 16} {
			s := New()
			for i := range size {
				s.Put(strconv.Itoa(i), spot(i))
			}
			wantShort(t, what, s)
			for i := range size {
				if step > 1 && i%step > 0 {
					s.Del(strconv.Itoa(i))
				}
			}
			wantLinks(t, s)
			wantShort(t, what+", of which a part remains", s)
		}
	}
}

// A queue of names lets new ones in for each one that goes.
func TestQueue(t *testing.T) {
	s := New()
	for i := range 30000 {
		s.Put(strconv.Itoa(i), int64(i))
		if i >= 3000 {
			e, ok := s.At(0)
			if !ok || e.Score != int64(i-3000) || !s.Del(e.Name) {
				t.Fatalf("8.1: the first name: %v, %v", e, ok)
			}
		}
	}
	wantLinks(t, s)
	wantShort(t, "a queue", s)
}

// A Set keeps nothing of a name that was removed, nor of the text from which a name
// was cut.
func TestRemovedNamesAreNotKept(t *testing.T) {
	s := New()
	var gone []weak.Pointer[byte]
	for i := range 200 {
		long := strings.Repeat(strconv.Itoa(i), 100)
		gone = append(gone, weak.Make(unsafe.StringData(long)))
		s.Put(long[:20], int64(i%7))
		s.Put(long[:20], int64(i%5))
	}
	for _, e := range s.All()[:150] {
		gone = append(gone, weak.Make(unsafe.StringData(e.Name)))
		s.Del(e.Name)
	}
	wantLinks(t, s)
	runtime.GC()
	for i, p := range gone {
		if p.Value() != nil {
			t.Errorf("8.2: text %d of %d that the Set does not need is kept", i, len(gone))
		}
	}
	runtime.KeepAlive(s)
}

// A Put with the score that a name has already changes nothing, and takes no number
// of a new name.
func TestPutOfTheSame(t *testing.T) {
	s := Of([]api.Score{{Name: "a", Score: 1}, {Name: "b", Score: 2}, {Name: "c", Score: 3}})
	front, added := *s.front, s.added
	if s.Put("b", 2) || *s.front != front || s.added != added {
		t.Error("8.1: a Put of the same score changes the Set")
	}
	if s.Put("b", 9) || s.added != added {
		t.Error("8.1: a name that moves is counted as a new one")
	}
	wantLinks(t, s)
}
