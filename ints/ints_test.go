package ints_test

import (
	"math"
	"math/big"
	"strconv"
	"strings"
	"testing"

	"scriptorium/ints"
)

const (
	least = math.MinInt64
	most  = math.MaxInt64
)

// edges are the numbers around which a sum, a product or a quotient stops fitting.
func edges() []int64 {
	around := []int64{0, 10, 100, 1 << 31, 1 << 32, 1 << 62, most / 2, most / 3, most / 10, 3037000499, most - 2}
	var all []int64
	for _, n := range around {
		for d := int64(-2); d <= 2; d++ {
			all = append(all, n+d, -n-d)
		}
	}
	return append(all, least, least+1, least/2, least/10)
}

// spread gives count numbers of all magnitudes, the same ones each time.
func spread(count int) []int64 {
	var all []int64
	state := uint64(88172645463325252)
	for i := range count {
		state ^= state << 13
		state ^= state >> 7
		state ^= state << 17
		all = append(all, int64(state)>>(i%64))
	}
	return all
}

// forPairs visits pairs of edges, of small numbers and of numbers of all magnitudes.
func forPairs(visit func(a, b int64)) {
	for _, a := range edges() {
		for _, b := range edges() {
			visit(a, b)
		}
	}
	for a := int64(-20); a <= 20; a++ {
		for b := int64(-20); b <= 20; b++ {
			visit(a, b)
		}
	}
	left, right := spread(20000), spread(20011)
	for i, a := range left {
		visit(a, right[(i*7)%len(right)])
	}
}

func TestParseOfNumbers(t *testing.T) {
	for _, x := range []struct {
		s string
		n int64
	}{
		{"0", 0}, {"1", 1}, {"-1", -1}, {"9", 9}, {"10", 10}, {"-10", -10}, {"12", 12}, {"1000", 1000},
		{"1234567890", 1234567890}, {"-9876543210", -9876543210},
		{"999999999999999999", 999999999999999999}, {"1000000000000000000", 1000000000000000000},
		{"9223372036854775799", most - 8}, {"9223372036854775806", most - 1}, {"9223372036854775807", most},
		{"-9223372036854775807", least + 1}, {"-9223372036854775808", least},
	} {
		if n, ok := ints.Parse(x.s); n != x.n || !ok {
			t.Errorf("1.1: Parse(%q): %d %v, want %d true", x.s, n, ok, x.n)
		}
	}
}

func TestParseOfOtherTexts(t *testing.T) {
	for _, s := range []string{
		"", "-", "--", "--1", "1-", "1-1", "+", "+1", "+0", "-+1", "-0", "-00", "00", "01", "-01", "007", "-0000000000000000000001",
		" ", " 1", "1 ", "1\n", "\t1", "1\x00", "\x001", "- 1", "1 2", "1_0", "1,0", "1.0", "1.", ".1", "1e3", "0x1", "0b1", "0o7", "a", "1a", "a1", "-a",
		"/", ":", "1/", "1:", "-/", "-:", "\xff", "1\xff", "\xb1", "1\xb1", "١", "１", "−1",
		"9223372036854775808", "9223372036854775809", "9223372036854775810", "9300000000000000000", "-9223372036854775809", "-9223372036854775810",
		"18446744073709551615", "18446744073709551616", "18446744073709551617", "-18446744073709551615", "-18446744073709551617", "36893488147419103233",
		"10000000000000000000", "99999999999999999999999", "-99999999999999999999999",
		strings.Repeat("9", 5000), "-" + strings.Repeat("1", 5000), strings.Repeat("0", 5000), "9223372036854775807a", "9223372036854775808a",
	} {
		if n, ok := ints.Parse(s); n != 0 || ok {
			t.Errorf("1.1: Parse(%q): %d %v, want 0 false", s, n, ok)
		}
	}
}

// An integer of the document is one that its own decimal text gives back.
func wantParse(s string) (int64, bool) {
	n, err := strconv.ParseInt(s, 10, 64)
	if err != nil || strconv.FormatInt(n, 10) != s {
		return 0, false
	}
	return n, true
}

func TestParseOfShortTexts(t *testing.T) {
	letters := "-+0129/:a \xff"
	texts := []string{""}
	for from := 0; len(texts[from]) < 4; from++ {
		for i := range len(letters) {
			texts = append(texts, texts[from]+letters[i:i+1])
		}
	}
	for _, s := range texts {
		want, wantOK := wantParse(s)
		if n, ok := ints.Parse(s); n != want || ok != wantOK {
			t.Fatalf("1.1: Parse(%q): %d %v, want %d %v", s, n, ok, want, wantOK)
		}
	}
	for b := range 256 {
		for _, s := range []string{string([]byte{byte(b)}), string([]byte{'1', byte(b)}), string([]byte{'-', byte(b)}), string([]byte{'1', byte(b), '2'})} {
			want, wantOK := wantParse(s)
			if n, ok := ints.Parse(s); n != want || ok != wantOK {
				t.Fatalf("1.1: Parse(%q): %d %v, want %d %v", s, n, ok, want, wantOK)
			}
		}
	}
}

// Texts just inside and just outside int64, of which the last digits decide.
func TestParseAtTheEnds(t *testing.T) {
	for _, end := range []int64{most, least} {
		n := big.NewInt(end)
		for d := int64(-3000); d <= 3000; d++ {
			s := new(big.Int).Add(n, big.NewInt(d)).String()
			want, wantOK := wantParse(s)
			if n, ok := ints.Parse(s); n != want || ok != wantOK {
				t.Fatalf("1.1: Parse(%q): %d %v, want %d %v", s, n, ok, want, wantOK)
			}
		}
	}
}

func TestPrint(t *testing.T) {
	if s := ints.Print(12); s != "12" {
		t.Errorf("1.1: Print(12): %q", s)
	}
	numbers := append(edges(), spread(20000)...)
	for n := int64(-1100); n <= 1100; n++ {
		numbers = append(numbers, n)
	}
	for _, n := range numbers {
		s := ints.Print(n)
		if s != strconv.FormatInt(n, 10) {
			t.Fatalf("1.1: Print(%d): %q", n, s)
		}
		if back, ok := ints.Parse(s); back != n || !ok {
			t.Fatalf("1.1: Parse(Print(%d)): %d %v", n, back, ok)
		}
	}
}

type call struct {
	name string
	of   func(a, b int64) (int64, bool)
	want func(a, b *big.Int) *big.Int
}

// floorDiv is the largest integer that is not above a / b.
func floorDiv(a, b *big.Int) *big.Int {
	if b.Sign() < 0 {
		a, b = new(big.Int).Neg(a), new(big.Int).Neg(b)
	}
	return new(big.Int).Div(a, b) // with b above 0 Euclid's quotient is the floor
}

func floorMod(a, b *big.Int) *big.Int {
	return new(big.Int).Sub(a, new(big.Int).Mul(b, floorDiv(a, b)))
}

func calls() []call {
	return []call{
		{"Add", ints.Add, func(a, b *big.Int) *big.Int { return new(big.Int).Add(a, b) }},
		{"Sub", ints.Sub, func(a, b *big.Int) *big.Int { return new(big.Int).Sub(a, b) }},
		{"Mul", ints.Mul, func(a, b *big.Int) *big.Int { return new(big.Int).Mul(a, b) }},
		{"Div", ints.Div, floorDiv},
		{"Mod", ints.Mod, floorMod},
	}
}

func TestCallsAgainstLongNumbers(t *testing.T) {
	for _, c := range calls() {
		divides := c.name == "Div" || c.name == "Mod"
		forPairs(func(a, b int64) {
			want, wantOK := int64(0), false
			if b != 0 || !divides {
				exact := c.want(big.NewInt(a), big.NewInt(b))
				if exact.IsInt64() {
					want, wantOK = exact.Int64(), true
				}
			}
			if n, ok := c.of(a, b); n != want || ok != wantOK {
				t.Fatalf("1.2: %s(%d, %d): %d %v, want %d %v", c.name, a, b, n, ok, want, wantOK)
			}
		})
	}
}

func TestNamedEdges(t *testing.T) {
	for _, x := range []struct {
		name string
		of   func(a, b int64) (int64, bool)
		a, b int64
		want int64
		ok   bool
	}{
		{"Add", ints.Add, 2, 3, 5, true},
		{"Add", ints.Add, most, 0, most, true},
		{"Add", ints.Add, most, 1, 0, false},
		{"Add", ints.Add, least, -1, 0, false},
		{"Add", ints.Add, least, least, 0, false},
		{"Add", ints.Add, most, least, -1, true},
		{"Sub", ints.Sub, 5, 7, -2, true},
		{"Sub", ints.Sub, 0, least, 0, false},
		{"Sub", ints.Sub, -1, least, most, true},
		{"Sub", ints.Sub, least, 1, 0, false},
		{"Sub", ints.Sub, most, -1, 0, false},
		{"Sub", ints.Sub, least, least, 0, true},
		{"Mul", ints.Mul, 6, -7, -42, true},
		{"Mul", ints.Mul, 1 << 32, 1 << 31, 0, false},
		{"Mul", ints.Mul, 1 << 32, 1 << 32, 0, false},
		{"Mul", ints.Mul, 1 << 32, -1 << 31, least, true},
		{"Mul", ints.Mul, least, -1, 0, false},
		{"Mul", ints.Mul, -1, least, 0, false},
		{"Mul", ints.Mul, least, 0, 0, true},
		{"Mul", ints.Mul, 0, least, 0, true},
		{"Div", ints.Div, 7, 2, 3, true},
		{"Div", ints.Div, -7, 2, -4, true},
		{"Div", ints.Div, 7, -2, -4, true},
		{"Div", ints.Div, -7, -2, 3, true},
		{"Div", ints.Div, -6, 2, -3, true},
		{"Div", ints.Div, 0, -5, 0, true},
		{"Div", ints.Div, 0, 0, 0, false},
		{"Div", ints.Div, 1, 0, 0, false},
		{"Div", ints.Div, least, 0, 0, false},
		{"Div", ints.Div, least, -1, 0, false},
		{"Div", ints.Div, least, 1, least, true},
		{"Div", ints.Div, most, -1, least + 1, true},
		{"Div", ints.Div, 1, least, -1, true},
		{"Mod", ints.Mod, -7, 2, 1, true},
		{"Mod", ints.Mod, 7, -2, -1, true},
		{"Mod", ints.Mod, -7, -2, -1, true},
		{"Mod", ints.Mod, 7, 2, 1, true},
		{"Mod", ints.Mod, 6, -3, 0, true},
		{"Mod", ints.Mod, 0, 0, 0, false},
		{"Mod", ints.Mod, 1, 0, 0, false},
		{"Mod", ints.Mod, least, 0, 0, false},
		{"Mod", ints.Mod, least, -1, 0, true},
		{"Mod", ints.Mod, 1, least, least + 1, true},
		{"Mod", ints.Mod, least, most, most - 1, true},
	} {
		if n, ok := x.of(x.a, x.b); n != x.want || ok != x.ok {
			t.Errorf("1.2: %s(%d, %d): %d %v, want %d %v", x.name, x.a, x.b, n, ok, x.want, x.ok)
		}
	}
}

// The sum is taken with wrap-round: b times the quotient alone may leave int64 where the whole does not.
func TestDivAndModMakeTheWhole(t *testing.T) {
	both := 0
	forPairs(func(a, b int64) {
		quotient, ok := ints.Div(a, b)
		if !ok {
			return
		}
		rest, ok := ints.Mod(a, b)
		if !ok {
			t.Fatalf("1.3: Mod(%d, %d) is missing where Div exists", a, b)
		}
		both++
		if b*quotient+rest != a {
			t.Fatalf("1.3: of %d, %d: %d times %d plus %d", a, b, b, quotient, rest)
		}
		if rest != 0 && (rest < 0) != (b < 0) {
			t.Fatalf("1.3: of %d, %d: the rest %d has not the sign of %d", a, b, rest, b)
		}
	})
	if both < 10000 {
		t.Fatalf("1.3: only %d pairs were held against it", both)
	}
}
