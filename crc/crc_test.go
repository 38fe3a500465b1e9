package crc_test

import (
	"bytes"
	"hash/crc32"
	"testing"

	"scriptorium/crc"
)

// bitwise is Update in the document's own steps.
func bitwise(c uint32, b []byte) uint32 {
	r := ^c
	for _, next := range b {
		r ^= uint32(next)
		for range 8 {
			out := r & 1
			r >>= 1
			if out == 1 {
				r ^= 0xEDB88320
			}
		}
	}
	return ^r
}

// chance gives the same numbers each time.
type chance uint64

func (c *chance) next() uint64 {
	*c ^= *c << 13
	*c ^= *c >> 7
	*c ^= *c << 17
	return uint64(*c)
}

func (c *chance) bytes(count int) []byte {
	b := make([]byte, count)
	for i := range b {
		b[i] = byte(c.next() >> 20)
	}
	return b
}

func newChance() *chance {
	c := chance(88172645463325252)
	return &c
}

// sums are checksums to go on from: all ends, each bit on its own, each bit missing, and others.
func sums() []uint32 {
	all := []uint32{0, 0xFFFFFFFF, 0xEDB88320, 0x12477CDF, 0x04C11DB7, 0xCBF43926, 0xAAAAAAAA, 0x55555555, 0xFF, 0xFF000000}
	for bit := range 32 {
		all = append(all, 1<<bit, ^uint32(1<<bit))
	}
	c := newChance()
	for range 100 {
		all = append(all, uint32(c.next()>>16))
	}
	return all
}

func TestKnownSums(t *testing.T) {
	for _, x := range []struct {
		b    string
		want uint32
	}{
		{"123456789", 0xCBF43926},
		{"", 0},
		{"\x00", 0xD202EF8D},
		{"\xff", 0xFF000000},
		{"a", 0xE8B7BE43},
		{"abc", 0x352441C2},
		{"\x00\x00\x00\x00", 0x2144DF1C},
		{"\xff\xff\xff\xff", 0xFFFFFFFF},
		{"The quick brown fox jumps over the lazy dog", 0x414FA339},
	} {
		if got := crc.Sum([]byte(x.b)); got != x.want {
			t.Errorf("2.1: Sum(%q): %08X, want %08X", x.b, got, x.want)
		}
		if got := crc.Update(0, []byte(x.b)); got != x.want {
			t.Errorf("2.1: Update(0, %q): %08X, want %08X", x.b, got, x.want)
		}
	}
}

func TestEmptyPieces(t *testing.T) {
	if got := crc.Sum(nil); got != 0 {
		t.Errorf("2.1: Sum(nil): %08X, want 0", got)
	}
	for _, c := range sums() {
		for _, b := range [][]byte{nil, {}, make([]byte, 0, 8), []byte("abc")[3:]} {
			if got := crc.Update(c, b); got != c {
				t.Errorf("2.1: Update(%08X, no bytes): %08X", c, got)
			}
		}
	}
}

func TestSingleBytes(t *testing.T) {
	for _, c := range sums() {
		for i := range 256 {
			b := []byte{byte(i)}
			if got, want := crc.Update(c, b), bitwise(c, b); got != want {
				t.Fatalf("2.1: Update(%08X, %x): %08X, want %08X", c, b, got, want)
			}
		}
	}
}

func TestPiecesOfAllLengths(t *testing.T) {
	c := newChance()
	from := sums()
	for length := range 700 {
		b := c.bytes(length)
		if got, want := crc.Sum(b), bitwise(0, b); got != want {
			t.Fatalf("2.1: Sum of %x: %08X, want %08X", b, got, want)
		}
		earlier := from[length%len(from)]
		if got, want := crc.Update(earlier, b), bitwise(earlier, b); got != want {
			t.Fatalf("2.1: Update(%08X, %x): %08X, want %08X", earlier, b, got, want)
		}
	}
}

func TestLongPieces(t *testing.T) {
	c := newChance()
	for _, length := range []int{1<<16 - 1, 1 << 16, 1<<16 + 1, 1<<20 + 4, 1 << 22} {
		for _, b := range [][]byte{c.bytes(length), make([]byte, length), bytes.Repeat([]byte{0xFF}, length)} {
			if got, want := crc.Sum(b), crc32.ChecksumIEEE(b); got != want {
				t.Errorf("2.1: Sum of %d bytes like %x: %08X, want %08X", length, b[:8], got, want)
			}
			if got, want := crc.Update(0xCBF43926, b), crc32.Update(0xCBF43926, crc32.IEEETable, b); got != want {
				t.Errorf("2.1: Update(CBF43926, %d bytes like %x): %08X, want %08X", length, b[:8], got, want)
			}
		}
	}
}

// Only the bytes of the piece count, not what lies around it in memory.
func TestPieceOfMore(t *testing.T) {
	whole := []byte("..123456789..")
	if got := crc.Sum(whole[2:11]); got != 0xCBF43926 {
		t.Errorf("2.1: Sum of a piece of more: %08X", got)
	}
	if got := crc.Update(crc.Sum(whole[2:6]), whole[6:11]); got != 0xCBF43926 {
		t.Errorf("2.1: Update with a piece of more: %08X", got)
	}
}

func TestArgumentsStay(t *testing.T) {
	b := newChance().bytes(1000)
	before := bytes.Clone(b)
	first := crc.Sum(b)
	later := crc.Update(first, b)
	if !bytes.Equal(b, before) {
		t.Errorf("2.1: the bytes were changed")
	}
	if crc.Sum(b) != first || crc.Update(first, b) != later {
		t.Errorf("2.1: the same bytes gave two sums")
	}
}

func TestEveryDivision(t *testing.T) {
	for _, b := range [][]byte{
		nil, {0}, {0xFF}, []byte("ab"), []byte("123456789"), make([]byte, 70), newChance().bytes(600),
	} {
		want := bitwise(0, b)
		for at := range len(b) + 1 {
			if got := crc.Update(crc.Sum(b[:at]), b[at:]); got != want {
				t.Fatalf("2.2: Update(Sum(%x), %x): %08X, want %08X", b[:at], b[at:], got, want)
			}
		}
	}
}

func TestManyPieces(t *testing.T) {
	b := newChance().bytes(2000)
	want := bitwise(0, b)
	for _, length := range []int{1, 2, 3, 7, 64, 255, 256, 257, 1999} {
		got := uint32(0)
		for at := 0; at < len(b); at += length {
			got = crc.Update(got, nil)
			got = crc.Update(got, b[at:min(at+length, len(b))])
		}
		if got != want {
			t.Errorf("2.2: in pieces of %d bytes: %08X, want %08X", length, got, want)
		}
	}
}

// flipped returns b with 32 bits XORed by pattern, the first of them bit first of b. A sum takes the lowest bit of a byte first.
func flipped(b []byte, first int, pattern uint32) []byte {
	other := bytes.Clone(b)
	for i := range 32 {
		at := first + i
		other[at/8] ^= byte(pattern>>i&1) << (at % 8)
	}
	return other
}

// independent tells whether no choice of the numbers XORs to 0.
func independent(numbers []uint32) bool {
	var kept []uint32
	for _, n := range numbers {
		for _, k := range kept {
			n = min(n, n^k)
		}
		if n == 0 {
			return false
		}
		kept = append(kept, n)
	}
	return true
}

// For each run of 32 bits the changes that its bits make to the sum are told to be independent; as the
// changes of several bits are XORed, each of the 2^32 - 1 differences in the run makes a change.
func TestNearDifferencesAreSeen(t *testing.T) {
	c := newChance()
	for _, length := range []int{4, 5, 8, 9, 33} {
		b := c.bytes(length)
		sum := crc.Sum(b)
		for first := range length*8 - 31 {
			var changes []uint32
			for bit := range 32 {
				changes = append(changes, sum^crc.Sum(flipped(b, first, 1<<bit)))
			}
			if !independent(changes) {
				t.Fatalf("2.2: %d bytes: some difference in the 32 bits from bit %d on is not seen", length, first)
			}
			pattern := uint32(c.next()>>16) | 1
			want := uint32(0)
			for bit, change := range changes {
				want ^= change * (pattern >> bit & 1)
			}
			if got := sum ^ crc.Sum(flipped(b, first, pattern)); got != want || got == 0 {
				t.Fatalf("2.2: %d bytes, from bit %d on: difference %08X changes the sum by %08X, want %08X", length, first, pattern, got, want)
			}
		}
	}
}

func TestNearDifferencesFarInside(t *testing.T) {
	c := newChance()
	b := c.bytes(5000)
	sum := crc.Sum(b)
	for range 3000 {
		first := int(c.next() % uint64(len(b)*8-31))
		pattern := uint32(c.next() >> 16)
		if got := crc.Sum(flipped(b, first, pattern)); (got == sum) != (pattern == 0) {
			t.Fatalf("2.2: difference %08X from bit %d on is not seen", pattern, first)
		}
	}
}

func TestShortStringsHaveSumsOfTheirOwn(t *testing.T) {
	seen := map[uint32]int{}
	for i := range 1 << 16 {
		sum := crc.Sum([]byte{byte(i >> 8), byte(i)})
		if other, ok := seen[sum]; ok {
			t.Fatalf("2.2: %04x and %04x have the sum %08X", other, i, sum)
		}
		seen[sum] = i
	}
}
