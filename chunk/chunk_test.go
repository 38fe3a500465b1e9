package chunk_test

import (
	"math"
	"slices"
	"strconv"
	"strings"
	"testing"
	"unsafe"

	"scriptorium/chunk"
)

// numbered returns that many strings, each another one.
func numbered(count int) []string {
	l := make([]string, count)
	for i := range l {
		l[i] = strconv.Itoa(i)
	}
	return l
}

func wantList(t *testing.T, what string, got []string, want ...string) {
	t.Helper()
	if !slices.Equal(got, want) {
		t.Errorf("%s: %q, want %q", what, got, want)
	}
}

func wantString(t *testing.T, what, got string, ok bool, want string, wantOK bool) {
	t.Helper()
	if got != want || ok != wantOK {
		t.Errorf("%s: %q, %v, want %q, %v", what, got, ok, want, wantOK)
	}
}

func TestDocumentsExamples(t *testing.T) {
	s, ok := chunk.New().Pop(true)
	wantString(t, "7.1: Pop(true) of a new Row", s, ok, "", false)
	s, ok = chunk.New().Pop(false)
	wantString(t, "7.1: Pop(false) of a new Row", s, ok, "", false)
	r := chunk.Of([]string{"a", "b", "c"})
	s, ok = r.At(3)
	wantString(t, "7.1: At(3)", s, ok, "", false)
	if r.Set(-4, "x") || r.Insert(-1, "x") || r.Insert(4, "x") {
		t.Error("7.1: Set(-4, x), Insert(-1, x) or Insert(4, x) of a b c returns true")
	}
	wantList(t, "7.1: All of what nothing changed", r.All(), "a", "b", "c")
	wantList(t, "7.1: Slice(-2, 9)", r.Slice(-2, 9), "b", "c")
	wantList(t, "7.1: Slice(2, 1)", r.Slice(2, 1))
}

func TestNew(t *testing.T) {
	a, b := chunk.New(), chunk.New()
	if a == nil || a.Len() != 0 || len(a.All()) != 0 || a.Chunks() > 2 {
		t.Fatalf("7.1: New: Len %d, All %q, Chunks %d", a.Len(), a.All(), a.Chunks())
	}
	a.Push(true, "a")
	wantList(t, "7.1: All of another Row", b.All())
	wantList(t, "7.1: All", a.All(), "a")
	wantList(t, "7.1: All of Of(nil)", chunk.Of(nil).All())
	wantList(t, "7.1: All of Of of none", chunk.Of([]string{}).All())
}

// Each call at the edges of a short Row.
func TestEdges(t *testing.T) {
	for size := range 4 {
		for i := -size - 2; i <= size+2; i++ {
			w := watch(t, numbered(size)...)
			w.at(i)
			w.set(i, "x")
			w.wantAll()
			w.insert(i, "y")
			w.wantAll()
			w.remove(i)
			w.wantAll()
			for j := -size - 3; j <= size+3; j++ {
				w.slice(i, j)
			}
			w.pop(i%2 == 0)
			w.wantAll()
		}
	}
}

// Places are as far away as an int can be, and no sum of one and Len wraps round.
func TestFarPlaces(t *testing.T) {
	far := []int{math.MinInt, math.MinInt + 1, math.MinInt + 100, math.MinInt32, -1 << 32, -101, 101, 1 << 31, 1 << 32, math.MaxInt - 100, math.MaxInt - 1, math.MaxInt}
	for _, size := range []int{0, 1, 3, 32, 33, 100} {
		w := watch(t, numbered(size)...)
		for _, i := range far {
			w.at(i)
			w.set(i, "x")
			w.insert(i, "x")
			w.remove(i)
			for _, j := range slices.Concat(far, []int{-size - 1, -size, -1, 0, 1, size - 1, size}) {
				w.slice(i, j)
				w.slice(j, i)
			}
		}
		w.wantAll()
	}
}

// Strings may be empty, equal, or no text at all.
func TestStrings(t *testing.T) {
	l := []string{"", "", "a", "a", "\x00", "\xff\xfe", "é", "日本", " ", "\r\n", strings.Repeat("x", 5000), strings.Repeat("x", 5000), ""}
	w := watch(t, l...)
	for i, s := range l {
		w.insert(i, s)
		w.push(true, s)
		w.push(false, s)
		w.set(-i-1, s)
	}
	w.wantAll()
	w.wantEach()
	for range 3 * len(l) {
		w.pop(true)
		w.pop(false)
	}
	w.wantAll()
}

// Every size is pushed and popped, at and from both ends.
func TestPushAndPop(t *testing.T) {
	for size := range 140 {
		for ends := range 4 {
			in, out := ends&1 == 0, ends&2 == 0
			w := watch(t)
			for _, s := range numbered(size) {
				w.push(in, s)
			}
			w.wantAll()
			for range size + 1 {
				w.pop(out)
			}
			w.wantAll()
		}
	}
}

// Through a queue go more strings than it ever has at once.
func TestQueue(t *testing.T) {
	for _, front := range []bool{true, false} {
		for _, size := range []int{0, 1, 15, 16, 17, 31, 32, 33, 70} {
			w := watch(t, numbered(size)...)
			for i := range 300 {
				w.push(front, "q"+strconv.Itoa(i))
				w.pop(!front)
			}
			w.wantAll()
		}
	}
}

// A Row of every size has every place: each is read, set, removed and inserted.
func TestEveryPlace(t *testing.T) {
	for size := range 100 {
		l := numbered(size)
		w := watch(t, l...)
		w.wantEach()
		for i := range size {
			w.set(i, "s"+l[i])
			w.set(i-size, "t"+l[i])
			w.wantAll()
		}
		for i := range size + 1 {
			w.insert(i, "new")
			w.wantAll()
			w.remove(i)
			w.wantAll()
		}
		for i := range size {
			w.remove(i - size)
			w.insert(i, l[i])
			w.wantAll()
		}
	}
}

// A place between others is filled until its chunk and the next ones were halved,
// and emptied again.
func TestFillAndEmptyAPlace(t *testing.T) {
	for _, size := range []int{0, 1, 16, 31, 32, 33, 64, 65, 100} {
		for at := 0; at <= size; at += 1 + size/20 {
			for _, back := range []int{0, 1} {
				w := watch(t, numbered(size)...)
				for i := range 100 {
					w.insert(at+i*back, "n"+strconv.Itoa(i))
					w.wantAll()
				}
				for range 100 {
					w.remove(at)
					w.wantAll()
				}
			}
		}
	}
}

// The strings that remain are far from each other: no chunk keeps to be of a few.
func TestChunksOfFewStrings(t *testing.T) {
	for _, step := range []int{2, 3, 8, 15, 16, 17, 31, 32, 33, 50} {
		for _, back := range []bool{false, true} {
			w := watch(t, numbered(1000)...)
			for i := range 1000 {
				if back {
					i = 999 - i
				}
				if i%step != 0 {
					w.remove(slices.Index(w.list, strconv.Itoa(i)))
				}
			}
			w.wantAll()
			w.wantEach()
		}
	}
}

func TestEverySlice(t *testing.T) {
	for _, size := range []int{0, 1, 2, 31, 32, 33, 65} {
		w := watch(t, numbered(size)...)
		for from := -size - 2; from <= size+2; from++ {
			for to := -size - 2; to <= size+2; to++ {
				w.slice(from, to)
			}
		}
	}
}

func TestNilRow(t *testing.T) {
	var none *chunk.Row
	for range 2 {
		none.Push(true, "a")
		none.Push(false, "a")
		for _, i := range []int{math.MinInt, -1, 0, 1, math.MaxInt} {
			s, ok := none.At(i)
			wantString(t, "7.1: At of a nil Row", s, ok, "", false)
			s, ok = none.Remove(i)
			wantString(t, "7.1: Remove of a nil Row", s, ok, "", false)
			if none.Set(i, "a") || none.Insert(i, "a") {
				t.Errorf("7.1: Set or Insert of a nil Row at %d returns true", i)
			}
			wantList(t, "7.1: Slice of a nil Row", none.Slice(0, i))
			wantList(t, "7.1: Slice of a nil Row", none.Slice(i, 0))
		}
		s, ok := none.Pop(true)
		wantString(t, "7.1: Pop(true) of a nil Row", s, ok, "", false)
		s, ok = none.Pop(false)
		wantString(t, "7.1: Pop(false) of a nil Row", s, ok, "", false)
		if none.Len() != 0 || len(none.All()) != 0 || none.Chunks() != 0 {
			t.Errorf("7.1: a nil Row: Len %d, All %q, Chunks %d", none.Len(), none.All(), none.Chunks())
		}
	}
}

// A program can make a Row without New: no call of it panics, and it is empty.
func TestRowThatNewDidNotMake(t *testing.T) {
	calls := []func(r *chunk.Row){
		func(r *chunk.Row) { r.Pop(true) },
		func(r *chunk.Row) { r.Remove(0) },
		func(r *chunk.Row) { r.At(-1) },
		func(r *chunk.Row) { r.Set(0, "a") },
		func(r *chunk.Row) { r.Slice(0, 0) },
		func(r *chunk.Row) {},
	}
	for _, call := range calls {
		var r chunk.Row
		call(&r)
		w := &watched{t: t, row: &r}
		w.after("a call of an empty Row")
		w.wantAll()
		for _, s := range numbered(40) {
			w.insert(len(w.list)/2, s)
		}
		w.wantAll()
	}
}

func TestResultsBelongToTheCaller(t *testing.T) {
	want := numbered(100)
	r := chunk.Of(want)
	for _, get := range []func() []string{r.All, func() []string { return r.Slice(0, 31) }, func() []string { return r.Slice(3, 20) }, func() []string { return r.Slice(-100, 99) }} {
		got := get()
		clear(got)
		got = append(got[:1], "x", "y")
		if now := r.All(); !slices.Equal(now, want) || got[1] != "x" {
			t.Fatalf("7.1: All after a result was changed: %q, want %q", now, want)
		}
	}
	got := r.All()
	r.Set(0, "x")
	r.Remove(50)
	r.Insert(20, "x")
	if !slices.Equal(got, want) {
		t.Fatalf("7.1: a result after the Row was changed: %q, want %q", got, want)
	}
}

// A Row has a list and strings of its own, so that no argument is changed or kept.
func TestArgumentsAreCopied(t *testing.T) {
	l := numbered(70)
	r := chunk.Of(l)
	clear(l)
	wantList(t, "7.1: All after the argument of Of was changed", r.All(), numbered(70)...)
	r.Set(0, "x")
	r.Push(false, "x")
	wantList(t, "7.1: the argument of Of after the Row was changed", l, make([]string, 70)...)

	for i, call := range []func(r *chunk.Row, s string){
		func(r *chunk.Row, s string) { r.Push(true, s) },
		func(r *chunk.Row, s string) { r.Push(false, s) },
		func(r *chunk.Row, s string) { r.Insert(0, s) },
		func(r *chunk.Row, s string) { r.Push(true, ""); r.Set(0, s) },
		func(r *chunk.Row, s string) { *r = *chunk.Of([]string{s}) },
	} {
		b, r := []byte("abc"), chunk.New()
		call(r, unsafe.String(&b[0], len(b)))
		b[0] = 'q'
		s, ok := r.At(0)
		wantString(t, "7.1: At of what call "+strconv.Itoa(i)+" brought, after its argument was changed", s, ok, "abc", true)
	}
}

// history makes random calls for about as many strings as size, in phases that fill
// the Row and others that empty it.
func history(w *watched, c *chance, size, calls int) {
	w.t.Helper()
	for i := range calls {
		fills := i/(size*2)%2 == 0
		s, at := strconv.Itoa(c.below(1000)), c.around(len(w.list))
		switch k := c.below(12); {
		case k < 2 && (fills || k == 0):
			w.push(c.below(2) == 0, s)
		case k < 3:
			w.pop(c.below(2) == 0)
		case k < 6 && fills:
			w.insert(at, s)
		case k < 8:
			w.remove(at)
		case k < 9:
			w.set(at, s)
		case k < 10:
			w.slice(at, c.around(len(w.list)))
		case k < 11 && fills && len(w.list) < 2*size:
			w.insert(c.below(len(w.list)+1), s)
		default:
			w.at(at)
		}
		if i%(size+1) == 0 {
			w.wantAll()
		}
	}
	w.wantAll()
	w.wantEach()
}

func TestHistories(t *testing.T) {
	for seed := range 40 {
		c := newChance(seed)
		for _, size := range []int{1, 5, 33, 100, 400} {
			history(watch(t), c, size, 20*size+100)
			history(watch(t, numbered(size)...), c, size, 20*size+100)
		}
	}
}

// The strings of a long Row come and go at both ends and within it.
func TestLongRow(t *testing.T) {
	const size = 200000
	r := chunk.Of(numbered(size))
	for i := range 1000 {
		s, ok := r.At(i * 199)
		wantString(t, "7.1: At", s, ok, strconv.Itoa(i*199), true)
	}
	for i := range size / 2 {
		s, ok := r.Pop(true)
		wantString(t, "7.1: Pop(true)", s, ok, strconv.Itoa(i), true)
		s, ok = r.Pop(false)
		wantString(t, "7.1: Pop(false)", s, ok, strconv.Itoa(size-1-i), true)
	}
	if r.Len() != 0 || r.Chunks() > 2 {
		t.Fatalf("7.1: Len %d, Chunks %d of a Row that is empty again", r.Len(), r.Chunks())
	}
	for range size {
		r.Push(true, "a")
	}
	for i := range 2000 {
		r.Insert(r.Len()/2-i, "b")
	}
	if r.Len() != size+2000 || r.Chunks() > r.Len()/8+2 {
		t.Fatalf("7.1: Len %d, Chunks %d", r.Len(), r.Chunks())
	}
}

// Equal calls give equal results, the number of chunks among them.
func TestSameCallsSameResults(t *testing.T) {
	a, b := chunk.New(), chunk.New()
	c := newChance(3)
	for range 20000 {
		i, k := c.around(a.Len()), c.below(5)
		call := func(r *chunk.Row) (string, bool) {
			if k < 3 {
				return "", r.Insert(i, "a")
			}
			return r.Remove(i)
		}
		s, ok := call(a)
		want, wantOK := call(b)
		wantString(t, "7.2: the same call", s, ok, want, wantOK)
		if a.Chunks() != b.Chunks() || a.Len() != b.Len() {
			t.Fatalf("7.2: the same calls: Chunks %d, %d", a.Chunks(), b.Chunks())
		}
	}
}

func FuzzHistories(f *testing.F) {
	f.Add([]byte(strings.Repeat("\x00\x00\x02\x08", 50)))
	f.Add([]byte(strings.Repeat("\x02\x03\x02\x05\x03\x01", 60)))
	f.Fuzz(func(t *testing.T, calls []byte) {
		w := watch(t)
		for i := 0; i+1 < len(calls); i += 2 {
			s, at := strconv.Itoa(i), int(calls[i+1])-64
			switch calls[i] & 7 {
			case 0, 1:
				w.push(calls[i]&1 == 0, s)
			case 2, 6:
				w.insert(at, s)
			case 3:
				w.remove(at)
			case 4:
				w.pop(at%2 == 0)
			case 5:
				w.set(at, s)
			case 7:
				w.slice(at, int(calls[i])-128)
			}
		}
		w.wantAll()
		w.wantEach()
	})
}
