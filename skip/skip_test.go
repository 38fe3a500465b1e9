package skip_test

import (
	"math"
	"slices"
	"strconv"
	"strings"
	"testing"
	"unsafe"

	"scriptorium/api"
	"scriptorium/skip"
)

// numbered returns that many names with rising scores, three of each score.
func numbered(count int) []api.Score {
	l := make([]api.Score, count)
	for i := range l {
		l[i] = api.Score{Name: strconv.Itoa(i), Score: int64(i / 3)}
	}
	return l
}

func wantList(t *testing.T, what string, got []api.Score, want ...api.Score) {
	t.Helper()
	if !slices.Equal(got, want) {
		t.Errorf("%s: %v, want %v", what, got, want)
	}
}

func TestDocumentsExamples(t *testing.T) {
	s := skip.New()
	if !s.Put("a", 5) || !s.Put("b", 3) {
		t.Error("8.1: Put of a new name returns false")
	}
	if rank, ok := s.Rank("a"); rank != 1 || !ok {
		t.Errorf("8.1: Rank(a): %d, %v, want 1, true", rank, ok)
	}
	wantList(t, "8.1: All", s.All(), api.Score{Name: "b", Score: 3}, api.Score{Name: "a", Score: 5})
	s = skip.Of(numbered(9))
	wantList(t, "8.1: Range(3, 1)", s.Range(3, 1))
}

func TestNew(t *testing.T) {
	a, b := skip.New(), skip.New()
	if a == nil || a.Len() != 0 || len(a.All()) != 0 || a.Levels() > 20 {
		t.Fatalf("8.1: New: Len %d, All %v, Levels %d", a.Len(), a.All(), a.Levels())
	}
	a.Put("a", 1)
	wantList(t, "8.1: All of another Set", b.All())
	wantList(t, "8.1: All", a.All(), api.Score{Name: "a", Score: 1})
	wantList(t, "8.1: All of Of(nil)", skip.Of(nil).All())
	wantList(t, "8.1: All of Of of none", skip.Of([]api.Score{}).All())
}

// Of puts one element after another: the last score of a name holds.
func TestOf(t *testing.T) {
	s := skip.Of([]api.Score{{Name: "a", Score: 9}, {Name: "b", Score: 2}, {Name: "a", Score: 1}, {Name: "c", Score: 2}, {Name: "c", Score: 2}, {Name: "b", Score: 7}})
	wantList(t, "8.1: All of Of with names that come again", s.All(), api.Score{Name: "a", Score: 1}, api.Score{Name: "c", Score: 2}, api.Score{Name: "b", Score: 7})
	if s.Len() != 3 {
		t.Errorf("8.1: Len: %d, want 3", s.Len())
	}
	for size := range 60 {
		up, down := numbered(size), numbered(size)
		slices.Reverse(down)
		watch(t, up...).wantEach()
		watch(t, down...).wantEach()
	}
}

// Each call at the edges of a short Set, with names that are there and others.
func TestEdges(t *testing.T) {
	for size := range 5 {
		for i := -size - 2; i <= size+2; i++ {
			w := watch(t, numbered(size)...)
			w.at(i)
			for j := -size - 3; j <= size+3; j++ {
				w.ranged(i, j)
			}
			w.ask(strconv.Itoa(i))
			w.below(int64(i))
			w.put(strconv.Itoa(i), 1)
			w.wantAll()
			w.wantEach()
			w.put(strconv.Itoa(i), int64(i))
			w.wantAll()
			w.wantEach()
			w.del(strconv.Itoa(i))
			w.del(strconv.Itoa(i))
			w.wantAll()
			w.wantEach()
		}
	}
}

// Positions are as far away as an int can be, and no sum of one and Len wraps round.
func TestFarPositions(t *testing.T) {
	far := []int{math.MinInt, math.MinInt + 1, math.MinInt + 100, math.MinInt32, -1 << 32, -101, 101, 1 << 31, 1 << 32, math.MaxInt - 100, math.MaxInt - 1, math.MaxInt}
	for _, size := range []int{0, 1, 3, 100} {
		w := watch(t, numbered(size)...)
		for _, i := range far {
			w.at(i)
			for _, j := range slices.Concat(far, []int{-size - 1, -size, -1, 0, 1, size - 1, size}) {
				w.ranged(i, j)
				w.ranged(j, i)
			}
		}
	}
}

func TestEveryRange(t *testing.T) {
	for _, size := range []int{0, 1, 2, 7, 40} {
		w := watch(t, numbered(size)...)
		for from := -size - 2; from <= size+2; from++ {
			for to := -size - 2; to <= size+2; to++ {
				w.ranged(from, to)
			}
		}
	}
}

// Equal scores are ordered by the bytes of the names, not by their letters, their
// lengths or the numbers that they show.
func TestNamesOfOneScore(t *testing.T) {
	names := []string{"", "\x00", "\x00\x00", "\x01", "10", "9", "A", "AB", "B", "Z", "a", "a\x00", "a\x00b", "ab", "b", strings.Repeat("x", 5000), strings.Repeat("x", 5001), "z", "\x7f", "\x80", "é", "日本", "\xff", "\xff\x00", "\xff\xff"}
	for step := 1; step < len(names); step++ {
		w := watch(t)
		for i := range 3 * len(names) {
			w.put(names[i*step%len(names)], 7)
		}
		w.wantAll()
		w.wantEach()
	}
	var l []api.Score
	for _, name := range names {
		l = append(l, api.Score{Name: name, Score: 7})
	}
	slices.Reverse(l)
	for i, e := range skip.Of(l).All() {
		if e.Name != names[i] || e.Score != 7 {
			t.Fatalf("8.1: name %d in order: %q with %d, want %q with 7", i, e.Name, e.Score, names[i])
		}
	}
}

// Scores are all of int64: the order is theirs, not that of a difference that wraps
// round, and a smaller name never goes ahead of a smaller score.
func TestScores(t *testing.T) {
	scores := []int64{math.MinInt64, math.MinInt64 + 1, -1 << 62, math.MinInt32, -2, -1, 0, 1, 2, math.MaxInt32, 1 << 53, 1<<53 + 1, 1 << 62, math.MaxInt64 - 1, math.MaxInt64}
	w := watch(t)
	for i := range scores {
		w.put(strconv.Itoa(len(scores)-i+100), scores[i*7%len(scores)])
		w.put("z"+strconv.Itoa(i), scores[i*4%len(scores)])
	}
	w.wantAll()
	w.wantEach()
	for _, score := range scores {
		w.below(score)
		w.put("moves", score)
		w.wantEach()
		w.put("101", -score)
		w.wantAll()
	}
}

// A Put of a name that is there moves it, wherever it was and goes to.
func TestPutMoves(t *testing.T) {
	const size = 25
	for i := range size {
		for score := int64(-1); score <= size/3+1; score++ {
			w := watch(t, numbered(size)...)
			w.put(strconv.Itoa(i), score)
			w.wantAll()
			w.put(strconv.Itoa(i), score)
			w.wantAll()
			w.wantEach()
			w.del(strconv.Itoa(i))
			w.wantAll()
			w.wantEach()
		}
	}
}

// A Set is emptied from its front, its end, or elsewhere, and filled again.
func TestFillAndEmpty(t *testing.T) {
	for size := range 70 {
		for _, step := range []int{1, -1, 7, 29} {
			w := watch(t, numbered(size)...)
			for round := range 2 {
				for i := range size {
					w.del(strconv.Itoa((i*step%71 + 71*size) % size))
				}
				for i := range size {
					w.del(strconv.Itoa(i))
				}
				w.wantAll()
				w.wantEach()
				for i := range size {
					w.put(strconv.Itoa(i*step), int64(i*i%11*round))
				}
				w.wantAll()
			}
		}
	}
}

func TestNilSet(t *testing.T) {
	var none *skip.Set
	for range 2 {
		if none.Put("a", 1) || none.Del("a") {
			t.Error("8.1: Put or Del of a nil Set returns true")
		}
		if score, ok := none.Score("a"); score != 0 || ok {
			t.Errorf("8.1: Score of a nil Set: %d, %v", score, ok)
		}
		if rank, ok := none.Rank("a"); rank != 0 || ok {
			t.Errorf("8.1: Rank of a nil Set: %d, %v", rank, ok)
		}
		for _, i := range []int{math.MinInt, -1, 0, 1, math.MaxInt} {
			if e, ok := none.At(i); e != (api.Score{}) || ok {
				t.Errorf("8.1: At(%d) of a nil Set: %v, %v", i, e, ok)
			}
			wantList(t, "8.1: Range of a nil Set", none.Range(0, i))
			wantList(t, "8.1: Range of a nil Set", none.Range(i, 0))
			if n := none.Below(int64(i)); n != 0 {
				t.Errorf("8.1: Below(%d) of a nil Set: %d", i, n)
			}
		}
		if none.Len() != 0 || len(none.All()) != 0 || none.Levels() != 0 {
			t.Errorf("8.1: a nil Set: Len %d, All %v, Levels %d", none.Len(), none.All(), none.Levels())
		}
	}
}

// A program can make a Set without New: no call of it panics, and it is empty.
func TestSetThatNewDidNotMake(t *testing.T) {
	calls := []func(s *skip.Set){
		func(s *skip.Set) { s.Del("a") },
		func(s *skip.Set) { s.Score("a") },
		func(s *skip.Set) { s.Rank("a") },
		func(s *skip.Set) { s.At(0) },
		func(s *skip.Set) { s.Range(0, 0) },
		func(s *skip.Set) { s.Below(1) },
		func(s *skip.Set) {},
	}
	for _, call := range calls {
		var s skip.Set
		call(&s)
		w := &watched{t: t, set: &s}
		w.after("a call of an empty Set")
		w.wantAll()
		for _, e := range numbered(40) {
			w.put(e.Name, e.Score)
		}
		w.wantAll()
		w.wantEach()
	}
}

// A Set can be copied like every struct: its calls and those of the copy go on
// without a panic.
func TestCopiedSet(t *testing.T) {
	for size := range 20 {
		s := skip.Of(numbered(size))
		other := *s
		for i := range 300 {
			one, two := s, &other
			if i%3 == 0 {
				one, two = two, one
			}
			one.Put(strconv.Itoa(i*7%40), int64(i%5))
			two.Del(strconv.Itoa(i * 11 % 40))
			one.At(i % 40)
			two.Range(i%7, -1)
			one.Rank(strconv.Itoa(i % 40))
			two.Below(int64(i % 5))
		}
	}
}

func TestResultsBelongToTheCaller(t *testing.T) {
	want := numbered(100)
	s := skip.Of(want)
	want = s.All()
	for _, get := range []func() []api.Score{s.All, func() []api.Score { return s.Range(0, 31) }, func() []api.Score { return s.Range(-100, 99) }} {
		got := get()
		clear(got)
		got = append(got[:1], api.Score{Name: "x"})
		if now := s.All(); !slices.Equal(now, want) || got[1].Name != "x" {
			t.Fatalf("8.1: All after a result was changed: %v, want %v", now, want)
		}
	}
	got := s.All()
	s.Put("0", 50)
	s.Del("50")
	s.Put("x", 3)
	if !slices.Equal(got, want) {
		t.Fatalf("8.1: a result after the Set was changed: %v, want %v", got, want)
	}
}

// A Set has names of its own, so that no argument is changed or kept.
func TestArgumentsAreCopied(t *testing.T) {
	l := numbered(70)
	s := skip.Of(l)
	want := s.All()
	clear(l)
	wantList(t, "8.1: All after the argument of Of was changed", s.All(), want...)
	s.Put("0", 9)
	s.Put("x", 9)
	wantList(t, "8.1: the argument of Of after the Set was changed", l, make([]api.Score, 70)...)

	for i, call := range []func(name string) *skip.Set{
		func(name string) *skip.Set { s := skip.New(); s.Put(name, 1); return s },
		func(name string) *skip.Set { s := skip.New(); s.Put("abc", 2); s.Put(name, 1); return s },
		func(name string) *skip.Set { return skip.Of([]api.Score{{Name: name, Score: 1}}) },
	} {
		b := []byte("abc")
		s := call(unsafe.String(&b[0], len(b)))
		b[0] = 'q'
		wantList(t, "8.1: All after the argument of call "+strconv.Itoa(i)+" was changed", s.All(), api.Score{Name: "abc", Score: 1})
		if rank, ok := s.Rank("abc"); rank != 0 || !ok || s.Put("abc", 3) {
			t.Errorf("8.1: after the argument of call %d was changed, the name is not there", i)
		}
	}
}

// history makes random calls for some names and scores, in phases that fill the Set
// and others that empty it.
func history(w *watched, c *chance, names, scores, calls int) {
	w.t.Helper()
	for i := range calls {
		fills := i/(2*names)%2 == 0
		name, score := strconv.Itoa(c.below(names)), int64(c.below(scores)-scores/2)
		switch k := c.below(12); {
		case k < 2, k < 7 && fills:
			w.put(name, score)
		case k < 7, k < 8 && fills:
			w.del(name)
		case k < 9:
			w.ask(name)
		case k < 10:
			w.ranged(c.around(len(w.list)), c.around(len(w.list)))
		case k < 11:
			w.below(score)
		default:
			w.at(c.around(len(w.list)))
		}
		if i%(names+1) == 0 {
			w.wantAll()
		}
	}
	w.wantAll()
	w.wantEach()
}

func TestHistories(t *testing.T) {
	for seed := range 20 {
		c := newChance(seed)
		for _, names := range []int{1, 2, 5, 33, 200} {
			for _, scores := range []int{1, 2, 10, 100000} {
				history(watch(t), c, names, scores, 10*names+100)
			}
		}
	}
}

// Of many names each position is found, and there are some levels, not many.
func TestLargeSet(t *testing.T) {
	const size = 200000
	s := skip.New()
	for i := range size {
		k := i * 7919 % size
		s.Put(strconv.Itoa(k), int64(k))
	}
	if levels := s.Levels(); s.Len() != size || levels < 2 || levels > 20 {
		t.Fatalf("8.1: Len %d, Levels %d of %d names", s.Len(), levels, size)
	}
	for i := range size {
		name := strconv.Itoa(i)
		rank, has := s.Rank(name)
		e, ok := s.At(i - size)
		if rank != i || !has || e != (api.Score{Name: name, Score: int64(i)}) || !ok || s.Below(int64(i)) != i {
			t.Fatalf("8.1: name %d: Rank %d, %v, At %v, %v, Below %d", i, rank, has, e, ok, s.Below(int64(i)))
		}
	}
	for i := range size {
		if e, ok := s.At(0); !ok || e.Score != int64(i) || !s.Del(e.Name) {
			t.Fatalf("8.1: the first name of %d: %v, %v", s.Len(), e, ok)
		}
	}
	if s.Len() != 0 || len(s.All()) != 0 || s.Levels() > 20 {
		t.Fatalf("8.1: Len %d, Levels %d of a Set that is empty again", s.Len(), s.Levels())
	}
}

// Equal calls give equal results, the number of levels among them: heights do not
// depend on chance, nor on another Set.
func TestSameCallsSameResults(t *testing.T) {
	a, b := skip.New(), skip.New()
	c := newChance(3)
	for range 20000 {
		name, score, k := strconv.Itoa(c.below(500)), int64(c.below(50)), c.below(5)
		call := func(s *skip.Set) bool {
			if k < 3 {
				return s.Put(name, score)
			}
			return s.Del(name)
		}
		if got, want := call(a), call(b); got != want || a.Levels() != b.Levels() || a.Len() != b.Len() {
			t.Fatalf("8.2: the same calls: %v, %v, Levels %d, %d", got, want, a.Levels(), b.Levels())
		}
		skip.Of(numbered(2))
	}
	wantList(t, "8.2: All after the same calls", a.All(), b.All()...)
}

func FuzzHistories(f *testing.F) {
	f.Add([]byte(strings.Repeat("\x00\x00\x02\x08\x03\x05", 50)))
	f.Add([]byte(strings.Repeat("\x02\x03\x02\x05\x03\x01", 60)))
	f.Fuzz(func(t *testing.T, calls []byte) {
		w := watch(t)
		for i := 0; i+1 < len(calls); i += 2 {
			name, n := string(calls[i]>>3), int(calls[i+1])-128
			switch calls[i] & 7 {
			case 0, 1, 2:
				w.put(name, int64(n))
			case 3, 4:
				w.del(name)
			case 5:
				w.at(n)
			case 6:
				w.below(int64(n))
			case 7:
				w.ranged(n, int(calls[i])-128)
			}
		}
		w.wantAll()
		w.wantEach()
	})
}
