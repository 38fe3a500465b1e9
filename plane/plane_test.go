package plane_test

import (
	"fmt"
	"math"
	"slices"
	"strconv"
	"testing"

	"scriptorium/api"
	"scriptorium/plane"
)

const most = 1 << 20

var minusZero = math.Copysign(0, -1)

// chance gives the same numbers each time.
type chance uint64

func (c *chance) next() uint64 {
	*c ^= *c << 13
	*c ^= *c >> 7
	*c ^= *c << 17
	return uint64(*c)
}

func (c *chance) below(n int) int {
	return int(c.next() >> 20 % uint64(n))
}

// part is a part of a point that is at most as far from 0 as the bound.
func (c *chance) part(bound int) int64 {
	return int64(c.below(2*bound+1) - bound)
}

func newChance() *chance {
	c := chance(88172645463325252)
	return &c
}

// whole is a complex number of integers: what the tests compute with.
type whole struct{ x, y int64 }

func (a whole) add(b whole) whole { return whole{a.x + b.x, a.y + b.y} }

func (a whole) sub(b whole) whole { return whole{a.x - b.x, a.y - b.y} }

func (a whole) mul(b whole) whole { return whole{a.x*b.x - a.y*b.y, a.x*b.y + a.y*b.x} }

func (a whole) norm() int64 { return a.x*a.x + a.y*a.y }

func (a whole) may() bool {
	return -most <= a.x && a.x <= most && -most <= a.y && a.y <= most
}

func (a whole) complex() complex128 { return complex(float64(a.x), float64(a.y)) }

// point is what a call returns whose result is a.
func (a whole) point() (complex128, bool) {
	if !a.may() {
		return 0, false
	}
	return a.complex(), true
}

// same tells 0 from -0, and takes NaN for NaN.
func same(a, b complex128) bool {
	return math.Float64bits(real(a)) == math.Float64bits(real(b)) && math.Float64bits(imag(a)) == math.Float64bits(imag(b))
}

// someParts have among them those at which sums and products reach the bounds.
func someParts() []int64 {
	return []int64{-most, -most + 1, -1025, -1024, -1023, -3, -1, 0, 1, 2, 1023, 1024, 1025, most - 1, most}
}

func somePoints() []whole {
	var l []whole
	for _, x := range someParts() {
		for _, y := range someParts() {
			l = append(l, whole{x, y})
		}
	}
	return l
}

// noParts are all the ways in which a float can be no part of a point.
func noParts() []float64 {
	return []float64{
		most + 1, -most - 1, most + 2, 2 * most, -2 * most, 1 << 31, -1 << 31, 1 << 32, 1 << 53, 1 << 63, -1 << 63, 1 << 64, 1e300, math.MaxFloat64, -math.MaxFloat64,
		math.Nextafter(most, math.Inf(1)), math.Nextafter(-most, math.Inf(-1)), most + 0.5, -most - 0.5, most - 0.5, math.Nextafter(most, 0),
		0.5, -0.5, 1.5, -1.5, 0.1, 1e-9, math.Nextafter(1, 0), math.Nextafter(1, 2), math.Nextafter(-1, 0), math.SmallestNonzeroFloat64, -math.SmallestNonzeroFloat64,
		minusZero, math.NaN(), math.Inf(1), math.Inf(-1),
	}
}

func noPoints() []complex128 {
	var l []complex128
	for _, x := range noParts() {
		for _, good := range []float64{0, 1, -7, most, -most} {
			l = append(l, complex(x, good), complex(good, x))
		}
		for _, y := range noParts() {
			l = append(l, complex(x, y))
		}
	}
	return l
}

func named(l ...complex128) []api.Point {
	var points []api.Point
	for i, at := range l {
		points = append(points, api.Point{Name: "n" + strconv.Itoa(i), At: at})
	}
	return points
}

func wantMay(t *testing.T, c complex128, want bool) {
	t.Helper()
	if got := plane.May(c); got != want {
		t.Errorf("5.1: May(%v): %v", c, got)
	}
}

func wantPoint(t *testing.T, what string, got complex128, ok bool, want complex128, wantOK bool) {
	t.Helper()
	if !same(got, want) || ok != wantOK {
		t.Fatalf("%s: %v, %v, want %v, %v", what, got, ok, want, wantOK)
	}
}

func wantNear(t *testing.T, a complex128, l []complex128, want int) {
	t.Helper()
	if got, ok := plane.Near(a, named(l...)); got != want || ok != (want >= 0) {
		t.Fatalf("5.2: Near(%v, %v): %d, %v, want %d", a, l, got, ok, want)
	}
}

func wantSum(t *testing.T, l []complex128, want complex128, wantOK bool) {
	t.Helper()
	got, ok := plane.Sum(named(l...))
	wantPoint(t, fmt.Sprintf("5.2: Sum(%v)", l), got, ok, want, wantOK)
}

func wantParse(t *testing.T, re, im string, want complex128, wantOK bool) {
	t.Helper()
	got, ok := plane.Parse(re, im)
	wantPoint(t, fmt.Sprintf("5.2: Parse(%q, %q)", re, im), got, ok, want, wantOK)
}

func TestDocumentsExamples(t *testing.T) {
	wantMay(t, 0.5, false)
	sum, ok := plane.Add(1+2i, 3-4i)
	wantPoint(t, "5.1: Add(1+2i, 3-4i)", sum, ok, 4-2i, true)
	product, ok := plane.Mul(1+2i, 3-4i)
	wantPoint(t, "5.1: Mul(1+2i, 3-4i)", product, ok, 11+2i, true)
	if got := plane.Turn(1+2i, 1); !same(got, -2+1i) {
		t.Errorf("5.1: Turn(1+2i, 1): %v", got)
	}
	if got := plane.Norm(3 + 4i); got != 25 {
		t.Errorf("5.1: Norm(3+4i): %d", got)
	}
	wantNear(t, 0, []complex128{0.5, 10, 2i, 2}, 2)
	wantSum(t, []complex128{10, 2i, 2}, 12+2i, true)
	wantParse(t, "-5", "7", -5+7i, true)
	wantParse(t, "1048577", "0", 0, false)
	if !plane.Less(1, 1+1i) {
		t.Error("5.2: Less(1, 1+1i) is false")
	}
}

func TestMayOfIntegers(t *testing.T) {
	for x := -most - 1000; x <= most+1000; x++ {
		part, want := float64(x), -most <= x && x <= most
		if plane.May(complex(part, 0)) != want || plane.May(complex(-3, part)) != want {
			t.Fatalf("5.1: May of %d: not %v", x, want)
		}
	}
	for _, a := range somePoints() {
		wantMay(t, a.complex(), true)
	}
	for n := 21; n < 1023; n++ {
		for _, part := range []float64{math.Ldexp(1, n), -math.Ldexp(1, n), math.Ldexp(1, -n), -math.Ldexp(1, -n)} {
			wantMay(t, complex(part, 1), false)
			wantMay(t, complex(1, part), false)
		}
	}
}

func TestMayOfNoPoints(t *testing.T) {
	for _, c := range noPoints() {
		wantMay(t, c, false)
	}
	wantMay(t, complex(0, 0), true)
	wantMay(t, complex(minusZero, 0), false)
	wantMay(t, complex(0, minusZero), false)
	wantMay(t, complex(minusZero, minusZero), false)
}

// No fraction is a part of a point, however near to an integer it is.
func TestMayOfFractions(t *testing.T) {
	c := newChance()
	for range 100000 {
		n := float64(c.part(most - 1))
		for _, part := range []float64{n + 0.5, math.Nextafter(n, most), math.Nextafter(n, -most), n + 1.0/1024} {
			wantMay(t, complex(part, 0), false)
			wantMay(t, complex(2, part), false)
		}
	}
}

func TestAddAndMul(t *testing.T) {
	points := somePoints()
	for _, a := range points {
		for _, b := range points {
			got, ok := plane.Add(a.complex(), b.complex())
			want, wantOK := a.add(b).point()
			wantPoint(t, fmt.Sprintf("5.1: Add(%v, %v)", a, b), got, ok, want, wantOK)
			got, ok = plane.Mul(a.complex(), b.complex())
			want, wantOK = a.mul(b).point()
			wantPoint(t, fmt.Sprintf("5.1: Mul(%v, %v)", a, b), got, ok, want, wantOK)
		}
	}
}

func TestAddAndMulOfRandomPoints(t *testing.T) {
	c := newChance()
	good := 0
	for range 200000 {
		bound := 1 << c.below(21)
		a, b := whole{c.part(bound), c.part(bound)}, whole{c.part(most / bound), c.part(most / bound)}
		got, ok := plane.Mul(a.complex(), b.complex())
		want, wantOK := a.mul(b).point()
		wantPoint(t, fmt.Sprintf("5.1: Mul(%v, %v)", a, b), got, ok, want, wantOK)
		if ok {
			good++
		}
		b = whole{c.part(most), c.part(most)}
		got, ok = plane.Add(a.complex(), b.complex())
		want, wantOK = a.add(b).point()
		wantPoint(t, fmt.Sprintf("5.1: Add(%v, %v)", a, b), got, ok, want, wantOK)
	}
	if good < 50000 || good > 199000 {
		t.Errorf("5.1: %d products are points: the numbers try one side too little", good)
	}
}

func TestAddAndMulAtTheBounds(t *testing.T) {
	for _, x := range []struct {
		a, b     complex128
		sum, mul bool
	}{
		{most - 1, 1, true, true},
		{most, 1, false, true},
		{most * 1i, 1i, false, true},
		{-most, -1, false, true},
		{-most * 1i, -1i, false, true},
		{-most + most*1i, most - most*1i, true, false},
		{1024, 1024, true, true},
		{1024, 1025, true, false},
		{1024i, -1024, true, true},
		{1024i, -1025, true, false},
		{1 << 19, 2, true, true},
		{1<<19 + 1, 2, true, false},
		// Of the first two, one has 0 and 1 << 21 as parts, and the other 1 << 21 and 0.
		{1024 + 1024i, 1024 + 1024i, true, false},
		{1024 + 1024i, 1024 - 1024i, true, false},
		{1024 + 1024i, 512 + 512i, true, true},
		{1024 + 1024i, 512 - 512i, true, true},
	} {
		sum, ok := plane.Add(x.a, x.b)
		if ok != x.sum || ok && !same(sum, x.a+x.b) || !ok && !same(sum, 0) {
			t.Errorf("5.1: Add(%v, %v): %v, %v", x.a, x.b, sum, ok)
		}
		product, ok := plane.Mul(x.a, x.b)
		if ok != x.mul || !ok && !same(product, 0) {
			t.Errorf("5.1: Mul(%v, %v): %v, %v", x.a, x.b, product, ok)
		}
	}
}

// The product of points is a number: where a part of it is zero, it is 0 whatever the signs of the factors.
func TestMulHasNoMinusZero(t *testing.T) {
	for _, x := range []struct{ a, b, want complex128 }{
		{0, -5, 0}, {-5, 0, 0}, {0, -5i, 0}, {-5i, 0, 0}, {-5 - 5i, 0, 0}, {0, -5 - 5i, 0}, {0, 0, 0},
		{-3, -1, 3}, {-3, 1, -3}, {3, -1, -3}, {-3i, -1, 3i}, {-3, -1i, 3i}, {-3i, -1i, -3}, {3i, -1i, 3}, {1i, 1i, -1},
		{1 + 1i, 1 - 1i, 2}, {1 - 1i, 1 - 1i, -2i}, {-1 - 1i, 1 - 1i, -2}, {-1 - 1i, -1 - 1i, 2i},
	} {
		got, ok := plane.Mul(x.a, x.b)
		wantPoint(t, fmt.Sprintf("5.1: Mul(%v, %v)", x.a, x.b), got, ok, x.want, true)
	}
}

func TestAddAndMulOfNoPoints(t *testing.T) {
	for _, c := range noPoints() {
		for _, other := range []complex128{0, 1, -1, 2, -1i, 1 + 1i, most, -most, -c, c, 1 - c} {
			for _, x := range [][2]complex128{{c, other}, {other, c}} {
				got, ok := plane.Add(x[0], x[1])
				wantPoint(t, fmt.Sprintf("5.1: Add(%v, %v)", x[0], x[1]), got, ok, 0, false)
				got, ok = plane.Mul(x[0], x[1])
				wantPoint(t, fmt.Sprintf("5.1: Mul(%v, %v)", x[0], x[1]), got, ok, 0, false)
			}
		}
	}
}

// turned is a multiplied by i, once for each of 0 to 3 turns.
func turned(a whole, turns int) whole {
	for range turns {
		a = whole{-a.y, a.x}
	}
	return a
}

func TestTurn(t *testing.T) {
	for _, a := range somePoints() {
		for k := -13; k <= 13; k++ {
			want := turned(a, (k+16)%4).complex()
			if got := plane.Turn(a.complex(), k); !same(got, want) {
				t.Fatalf("5.1: Turn(%v, %d): %v, want %v", a, k, got, want)
			}
		}
	}
}

func TestManyTurns(t *testing.T) {
	for _, x := range []struct{ k, turns int }{
		{math.MaxInt, 3}, {math.MaxInt - 1, 2}, {math.MaxInt - 2, 1}, {math.MaxInt - 3, 0},
		{math.MinInt, 0}, {math.MinInt + 1, 1}, {math.MinInt + 2, 2}, {math.MinInt + 3, 3},
		{math.MaxInt32, 3}, {math.MinInt32, 0}, {math.MinInt32 - 1, 3}, {1 << 32, 0}, {1<<32 + 1, 1}, {-1<<32 + 3, 3}, {1 << 62, 0}, {-1<<62 - 1, 3},
		{1000001, 1}, {-1000001, 3},
	} {
		for _, a := range []whole{{1, 2}, {0, 0}, {-7, 0}, {0, 9}, {most, -most}} {
			want := turned(a, x.turns).complex()
			if got := plane.Turn(a.complex(), x.k); !same(got, want) {
				t.Errorf("5.1: Turn(%v, %d): %v, want %v", a, x.k, got, want)
			}
		}
	}
}

func TestTurnOfNoPoints(t *testing.T) {
	for _, c := range noPoints() {
		for _, k := range []int{0, 1, 2, 3, 4, -1, -2, -3, -4, 5, math.MaxInt, math.MinInt} {
			if got := plane.Turn(c, k); !same(got, c) {
				t.Fatalf("5.1: Turn(%v, %d): %v", c, k, got)
			}
		}
	}
}

func TestNorm(t *testing.T) {
	for _, x := range []struct {
		c    complex128
		want int64
	}{
		{0, 0}, {1, 1}, {-1, 1}, {1i, 1}, {-1i, 1}, {1 + 1i, 2}, {-3 - 4i, 25}, {4 - 3i, 25},
		{most, 1 << 40}, {-most * 1i, 1 << 40}, {most + most*1i, 1 << 41}, {-most - most*1i, 1 << 41}, {most + 1i, 1<<40 + 1}, {most - 1 - most*1i, 1<<41 - 2*most + 1},
	} {
		if got := plane.Norm(x.c); got != x.want {
			t.Errorf("5.1: Norm(%v): %d, want %d", x.c, got, x.want)
		}
	}
	for _, a := range somePoints() {
		if got := plane.Norm(a.complex()); got != a.norm() {
			t.Errorf("5.1: Norm(%v): %d, want %d", a, got, a.norm())
		}
	}
	for _, c := range noPoints() {
		if got := plane.Norm(c); got != -1 {
			t.Errorf("5.1: Norm(%v): %d", c, got)
		}
	}
}

func TestNear(t *testing.T) {
	for _, x := range []struct {
		a    complex128
		l    []complex128
		want int
	}{
		{0, nil, -1},
		{0, []complex128{}, -1},
		{0, []complex128{0}, 0},
		{3 + 4i, []complex128{-most - most*1i}, 0},
		{0, []complex128{5, 4, 3, 2, 1}, 4},
		{0, []complex128{1, 2, 3, 4, 5}, 0},
		{-5, []complex128{1, -7, 3, -4, -9}, 3},
		// Of those that are equally near, the first, whichever way they lie and whatever they are.
		{0, []complex128{2, 2i, -2, -2i}, 0},
		{0, []complex128{-2i, -2, 2i, 2}, 0},
		{1 + 1i, []complex128{9, 1, 1i, 1 + 2i}, 1},
		{0, []complex128{5, 3 + 4i, -4 - 3i}, 0},
		{0, []complex128{3 + 4i, 5}, 0},
		{7i, []complex128{8, 7i, 7i, 7i}, 1},
		// The sum of the squares counts, and neither the sum of the parts nor the greater of them.
		{0, []complex128{4, 3 + 2i}, 1},
		{0, []complex128{3 + 3i, 4}, 1},
		{0, []complex128{5, 4 + 4i}, 0},
	} {
		wantNear(t, x.a, x.l, x.want)
	}
}

// Differences of points may be greater than points, and their squares tell them apart by 1.
func TestNearFarAway(t *testing.T) {
	const corner = most + most*1i
	wantNear(t, -corner, []complex128{corner}, 0)
	wantNear(t, -corner, []complex128{corner, most - 1 + most*1i}, 1)
	wantNear(t, -corner, []complex128{corner, corner, most + (most-1)*1i, most - 1 + most*1i}, 2)
	wantNear(t, corner, []complex128{-corner, 0, -corner}, 1)
	wantNear(t, most, []complex128{-most + 1i, -most, -most - 1i}, 1)
	wantNear(t, -most*1i, []complex128{1 + most*1i, most * 1i}, 1)
	wantNear(t, -most*1i, []complex128{most * 1i, 1 + most*1i}, 0)
}

func TestNearOfNoPoints(t *testing.T) {
	var ignored []complex128
	for _, c := range noPoints() {
		wantNear(t, c, nil, -1)
		wantNear(t, c, []complex128{0, 1, -most, c}, -1)
		wantNear(t, 0, []complex128{c}, -1)
		wantNear(t, 0, []complex128{c, c, 7, c, -7, c}, 2)
		ignored = append(ignored, c)
	}
	wantNear(t, 0, ignored, -1)
	wantNear(t, 0, append(ignored, most), len(ignored))
	// They would be nearest.
	wantNear(t, 3, []complex128{5, 3.5, 3 + 0.25i, complex(3, minusZero), 4, 3.25}, 4)
	wantNear(t, most, []complex128{most + 1, 0, most + 1i*(most+1), 2}, 3)
	wantNear(t, 0, []complex128{complex(minusZero, 0), 9, complex(0, minusZero), complex(minusZero, minusZero)}, 1)
}

// modelNear is Near in the document's own words.
func modelNear(a whole, l []whole) int {
	for i, p := range l {
		nearest := true
		for j, other := range l {
			d, e := p.sub(a).norm(), other.sub(a).norm()
			nearest = nearest && (d < e || d == e && i <= j)
		}
		if nearest {
			return i
		}
	}
	return -1
}

func TestNearAndSumAgainstModels(t *testing.T) {
	c := newChance()
	sums := 0
	for range 20000 {
		bound := 1 << c.below(21)
		a := whole{c.part(bound), c.part(bound)}
		l := make([]whole, c.below(12))
		at := make([]complex128, len(l))
		sum, within := whole{}, true
		for i := range l {
			l[i] = whole{c.part(bound), c.part(bound)}
			at[i] = l[i].complex()
			sum = sum.add(l[i])
			within = within && sum.may()
		}
		wantNear(t, a.complex(), at, modelNear(a, l))
		if within {
			sums++
			wantSum(t, at, sum.complex(), true)
		} else {
			wantSum(t, at, 0, false)
		}
	}
	if sums < 1000 || sums > 19900 {
		t.Errorf("5.2: %d sums are points: the numbers try one side too little", sums)
	}
}

func TestSum(t *testing.T) {
	for _, x := range []struct {
		l    []complex128
		want complex128
		ok   bool
	}{
		{nil, 0, true},
		{[]complex128{}, 0, true},
		{[]complex128{0}, 0, true},
		{[]complex128{-3 + 8i}, -3 + 8i, true},
		{[]complex128{most - most*1i}, most - most*1i, true},
		{[]complex128{5, -5}, 0, true},
		{[]complex128{5 - 5i, -5 + 5i}, 0, true},
		{[]complex128{most - 1, 1}, most, true},
		{[]complex128{most, 1}, 0, false},
		{[]complex128{-most * 1i, -1i}, 0, false},
		// The sums on the way count, in the order of the list.
		{[]complex128{most, 1, -1}, 0, false},
		{[]complex128{most, -1, 1}, most, true},
		{[]complex128{1, -1, most}, most, true},
		{[]complex128{-1i, -most * 1i, 1i}, 0, false},
		{[]complex128{1i, -1i, -most * 1i}, -most * 1i, true},
		{[]complex128{most, most, -most, -most}, 0, false},
		{[]complex128{most, -most, most, -most}, 0, true},
	} {
		wantSum(t, x.l, x.want, x.ok)
	}
	ones := make([]complex128, most+1)
	for i := range ones {
		ones[i] = 1 - 1i
	}
	wantSum(t, ones[:most], most-most*1i, true)
	wantSum(t, ones, 0, false)
}

func TestSumOfNoPoints(t *testing.T) {
	for _, c := range noPoints() {
		wantSum(t, []complex128{c}, 0, false)
		wantSum(t, []complex128{c, 1}, 0, false)
		wantSum(t, []complex128{1, 2i, c}, 0, false)
		wantSum(t, []complex128{c, -c}, 0, false)
		wantSum(t, []complex128{1, c, -c, 2}, 0, false)
		wantSum(t, []complex128{1 - c, c}, 0, false)
	}
	wantSum(t, []complex128{0.5, 0.5}, 0, false)
	wantSum(t, []complex128{-1, most + 1}, 0, false)
}

func TestParse(t *testing.T) {
	parts := append(someParts(), -most-1, -most-2, most+1, most+2, 2*most, 1<<31, 1<<32, 1<<32+5, -1<<32, 1<<53+1, math.MaxInt64, math.MinInt64)
	for _, x := range parts {
		for _, y := range parts {
			want, wantOK := whole{x, y}.point()
			wantParse(t, strconv.FormatInt(x, 10), strconv.FormatInt(y, 10), want, wantOK)
		}
	}
	for x := -most - 100; x <= most+100; x += 97 {
		want, wantOK := whole{int64(x), int64(-x)}.point()
		wantParse(t, strconv.Itoa(x), strconv.Itoa(-x), want, wantOK)
	}
}

func TestParseOfNoIntegers(t *testing.T) {
	for _, s := range []string{
		"", "-", "+", "-0", "+0", "00", "01", "-01", "+1", "--1", "1-", " 1", "1 ", "1\n", "\t1", "1\x00", "1.0", "1.", ".5", "0.5", "1e3", "1E3", "0x1", "0b1", "0o7", "1_000",
		"1,000", "NaN", "Inf", "-Inf", "inf", "i", "1i", "1+2i", "a", "1a", "a1", "/", ":", "1:", "\xff", "１", "١", "−1", "9223372036854775808", "-9223372036854775809",
		"18446744073709551616", "18446744073709551617", "4294967296000000000000000000001", "-99999999999999999999999999",
	} {
		for _, good := range []string{"0", "1", "-1048576", s} {
			wantParse(t, s, good, 0, false)
			wantParse(t, good, s, 0, false)
		}
	}
}

func TestLess(t *testing.T) {
	points := somePoints()
	for _, a := range points {
		for _, b := range points {
			want := a.x < b.x || a.x == b.x && a.y < b.y
			if got := plane.Less(a.complex(), b.complex()); got != want {
				t.Fatalf("5.2: Less(%v, %v): %v", a, b, got)
			}
		}
	}
}

// somePoints rise by both parts, in this order.
func TestSortedByLess(t *testing.T) {
	c := newChance()
	var l []complex128
	for _, a := range somePoints() {
		l = append(l, a.complex())
	}
	mixed := slices.Clone(l)
	for i := range mixed {
		j := c.below(i + 1)
		mixed[i], mixed[j] = mixed[j], mixed[i]
	}
	slices.SortFunc(mixed, func(a, b complex128) int {
		switch {
		case plane.Less(a, b):
			return -1
		case plane.Less(b, a):
			return 1
		}
		return 0
	})
	if !slices.EqualFunc(mixed, l, same) {
		t.Errorf("5.2: sorted by Less: %v", mixed)
	}
}

func TestTurnsGoRound(t *testing.T) {
	for _, a := range somePoints() {
		c := a.complex()
		once := plane.Turn(c, 1)
		if got := plane.Turn(plane.Turn(plane.Turn(once, 1), 1), 1); !same(got, c) {
			t.Errorf("5.3: %v after four quarter turns: %v", c, got)
		}
		for k := -8; k <= 8; k++ {
			if got := plane.Turn(plane.Turn(c, k), -k); !same(got, c) {
				t.Errorf("5.3: %v after %d turns and back: %v", c, k, got)
			}
			if got := plane.Turn(c, 4*k); !same(got, c) {
				t.Errorf("5.3: %v after %d turns: %v", c, 4*k, got)
			}
			if !plane.May(plane.Turn(c, k)) || plane.Norm(plane.Turn(c, k)) != a.norm() {
				t.Errorf("5.3: %v after %d turns: %v", c, k, plane.Turn(c, k))
			}
		}
		if product, ok := plane.Mul(c, 1i); !ok || !same(product, once) {
			t.Errorf("5.3: %v by i: %v, turned %v", c, product, once)
		}
	}
}

func TestNormsOfProducts(t *testing.T) {
	c := newChance()
	for range 200000 {
		bound := 1 << c.below(21)
		a := complex(float64(c.part(bound)), float64(c.part(bound)))
		b := complex(float64(c.part(most/bound)), float64(c.part(most/bound)))
		if product, ok := plane.Mul(a, b); ok && plane.Norm(product) != plane.Norm(a)*plane.Norm(b) {
			t.Fatalf("5.3: Norm(%v): %d, of %v: %d, of %v: %d", product, plane.Norm(product), a, plane.Norm(a), b, plane.Norm(b))
		}
	}
}

func TestNamesDoNotCount(t *testing.T) {
	l := []api.Point{{Name: "b", At: 2}, {Name: "a", At: 2i}, {Name: "", At: -2}, {Name: "b", At: 2}}
	if i, ok := plane.Near(0, l); i != 0 || !ok {
		t.Errorf("5.2: Near of names that fall: %d, %v", i, ok)
	}
	if sum, ok := plane.Sum(l); !same(sum, 2+2i) || !ok {
		t.Errorf("5.2: Sum of names that fall: %v, %v", sum, ok)
	}
}

func TestArgumentsStay(t *testing.T) {
	l := named(0.5, 10, 2i, 2, complex(minusZero, minusZero), 12)
	before := slices.Clone(l)
	for range 2 {
		if i, ok := plane.Near(0, l); i != 2 || !ok {
			t.Errorf("5.2: Near: %d, %v", i, ok)
		}
		if sum, ok := plane.Sum(l[1:4]); !same(sum, 12+2i) || !ok {
			t.Errorf("5.2: Sum: %v, %v", sum, ok)
		}
		plane.Sum(l)
	}
	if !slices.EqualFunc(l, before, func(a, b api.Point) bool { return a.Name == b.Name && same(a.At, b.At) }) {
		t.Errorf("5.2: the list was changed: %v", l)
	}
}
