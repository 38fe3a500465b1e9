package chunk

import (
	"runtime"
	"strings"
	"testing"
	"unsafe"
	"weak"
)

// wantChunks holds the chunks of a Row against what is said of them: their sizes,
// those of neighbours, and that no chunk has room where another one has strings.
func wantChunks(t *testing.T, r *Row) {
	t.Helper()
	count := 0
	for c, l := range r.chunks {
		if len(l) < 1 || len(l) > 32 {
			t.Fatalf("7.1: chunk %d of %d has %d strings", c, len(r.chunks), len(l))
		}
		if c > 0 && len(r.chunks[c-1])+len(l) < 16 {
			t.Fatalf("7.1: chunks %d and %d of %d have %d and %d strings", c-1, c, len(r.chunks), len(r.chunks[c-1]), len(l))
		}
		count += len(l)
	}
	if r.count != count || r.Chunks() != len(r.chunks) {
		t.Fatalf("7.1: Len %d, Chunks %d of %d chunks with %d strings", r.Len(), r.Chunks(), len(r.chunks), count)
	}
	for c := range r.chunks {
		for other := range c {
			wantApart(t, r.chunks[c], r.chunks[other])
		}
	}
}

// wantApart holds that neither of two chunks has room within the other one.
func wantApart(t *testing.T, a, b []string) {
	t.Helper()
	x, y := uintptr(unsafe.Pointer(&a[0])), uintptr(unsafe.Pointer(&b[0]))
	const size = unsafe.Sizeof("")
	if x < y+uintptr(cap(b))*size && y < x+uintptr(cap(a))*size {
		t.Fatalf("7.2: two chunks, with room for %d and %d strings, overlap", cap(a), cap(b))
	}
}

func full() *Row {
	return Of(strings.Split(strings.Repeat("a", most), ""))
}

// What is pushed at an end fills a chunk before it begins another one.
func TestPushesFillChunks(t *testing.T) {
	for _, front := range []bool{true, false} {
		r := New()
		for i := range 200 {
			r.Push(front, "a")
			wantChunks(t, r)
			if want := (i + most) / most; r.Chunks() != want {
				t.Fatalf("7.1: %d chunks of %d strings that were pushed, want %d", r.Chunks(), i+1, want)
			}
		}
	}
}

// A full chunk is halved: the halves share its array, but neither has room where
// the other one begins, and each takes strings in by itself.
func TestHalves(t *testing.T) {
	for at := 1; at < most; at++ {
		r := full()
		r.Insert(at, "b")
		wantChunks(t, r)
		if r.Chunks() != 2 || min(len(r.chunks[0]), len(r.chunks[1])) != half {
			t.Fatalf("7.1: %d chunks after a Push into a full one", r.Chunks())
		}
	}
	r := full()
	whole := r.chunks[0]
	r.halve(0)
	if l := r.chunks[0]; len(l) != half || cap(l) != half || &l[0] != &whole[0] || &r.chunks[1][0] != &whole[half] {
		t.Fatalf("7.2: a half has %d strings, and room for %d", len(l), cap(l))
	}
	wantChunks(t, r)
	r.chunks[0] = insert(r.chunks[0], half, "left")
	r.chunks[1] = insert(r.chunks[1], 0, "right")
	if r.chunks[0][half] != "left" || r.chunks[1][0] != "right" || r.chunks[1][1] != "a" || len(r.chunks[1]) != half+1 {
		t.Fatalf("7.2: the halves %q and %q", r.chunks[0], r.chunks[1])
	}
}

// Chunks are as they should be after each call of a random history.
func TestChunksOfHistories(t *testing.T) {
	state := uint64(88172645463325252)
	below := func(n int) int {
		state ^= state << 13
		state ^= state >> 7
		state ^= state << 17
		return int(state >> 20 % uint64(n))
	}
	merged, halved := 0, 0
	for round := range 60 {
		r := New()
		spot := 1 + below(200)
		for i := range 600 {
			chunks := r.Chunks()
			if fills := i/300 == 0; below(10) < 2 == fills {
				at := below(r.Len() + 1)
				if r.Remove(at); r.Chunks() < chunks && r.Len() > 0 {
					merged++
				}
			} else {
				at := below(min(spot, r.Len()+1))
				if r.Insert(at, "a"); r.Chunks() > chunks && at > 0 && at < r.Len()-1 {
					halved++
				}
			}
			wantChunks(t, r)
		}
		if round == 59 && (merged < 100 || halved < 100) {
			t.Errorf("7.1: only %d merged and %d halved chunks", merged, halved)
		}
	}
}

// text returns a string whose memory is its own.
func text(i int) string {
	return strings.Repeat(string(rune('a'+i%26)), 100)
}

// A Row lets go of what was removed or replaced, also where chunks shared arrays.
func TestRemovedStringsAreNotKept(t *testing.T) {
	r := New()
	for i := range 33 {
		r.Push(false, text(i))
	}
	for i := range 60 {
		r.Insert(5+i%20, text(i))
	}
	for i := range 20 {
		r.Insert(40, text(i))
	}
	var gone []weak.Pointer[byte]
	note := func(i int) {
		s, _ := r.At(i)
		gone = append(gone, weak.Make(unsafe.StringData(s)))
	}
	for i := range 30 {
		note(i)
		r.Set(i, text(i))
	}
	for r.Len() > 3 {
		i := len(gone) * 7 % r.Len()
		note(i)
		r.Remove(i)
		wantChunks(t, r)
	}
	runtime.GC()
	for i, p := range gone {
		if p.Value() != nil {
			t.Errorf("7.2: string %d of %d that were removed is kept", i, len(gone))
		}
	}
	runtime.KeepAlive(r)
}

// The strings of a chunk that outgrows the array it shares, or that is merged, leave
// nothing behind in the array.
func TestArraysKeepNothing(t *testing.T) {
	r := full()
	whole := r.chunks[0][:most:most]
	r.Insert(half, "b")
	if r.chunks[0] = insert(r.chunks[0], 0, "c"); whole[0] != "" || whole[half-1] != "" {
		t.Errorf("7.2: a chunk left %q in the array that it shared", whole)
	}
	r = full()
	whole = r.chunks[0][:most:most]
	r.halve(0)
	for r.Chunks() == 2 {
		r.Remove(-1)
		r.Remove(0)
	}
	if rest := strings.Join(whole[half:], ""); rest != "" {
		t.Errorf("7.2: a merged chunk left %q in the array that it shared", rest)
	}
	wantChunks(t, r)
}
