package value_test

import (
	"fmt"
	"math"
	"slices"
	"strings"
	"testing"
	"unsafe"

	"scriptorium/api"
	"scriptorium/value"
)

const most = 1 << 20

var (
	minusZero = math.Copysign(0, -1)
	nan       = math.NaN()
	otherNaN  = math.Float64frombits(0xFFF8000000000001)
)

// show tells so much of a value as a message needs.
func show(v api.Value) string {
	return fmt.Sprintf("%.200s", fmt.Sprintf("%+q", fmt.Sprint(v)))
}

func text(s string) api.Value { return api.Value{Kind: 1, Text: s} }

func list(l ...string) api.Value { return api.Value{Kind: 2, List: l} }

// hash takes names and texts in turn.
func hash(l ...string) api.Value {
	v := api.Value{Kind: 3}
	for i := 0; i < len(l); i += 2 {
		v.Fields = append(v.Fields, api.Field{Name: l[i], Text: l[i+1]})
	}
	return v
}

func scores(l ...api.Score) api.Value { return api.Value{Kind: 4, Scores: l} }

func points(l ...api.Point) api.Value { return api.Value{Kind: 5, Points: l} }

func score(name string, n int64) api.Score { return api.Score{Name: name, Score: n} }

func point(name string, at complex128) api.Point { return api.Point{Name: name, At: at} }

// many has n elements; the names of those that have names rise.
func many(kind, n int) api.Value {
	return filled(kind, slices.Repeat([]int{5}, n))
}

// filled has an element for each number, with so many bytes (4 or more) in its strings.
func filled(kind int, bytes []int) api.Value {
	v := api.Value{Kind: kind}
	for i, n := range bytes {
		short := fmt.Sprintf("%04d", i)
		name := short + strings.Repeat("x", n-4)
		switch kind {
		case 2:
			v.List = append(v.List, name)
		case 3:
			v.Fields = append(v.Fields, api.Field{Name: short, Text: name[4:]})
		case 4:
			v.Scores = append(v.Scores, score(name, int64(i)))
		case 5:
			v.Points = append(v.Points, point(name, complex(float64(i), -1)))
		}
	}
	return v
}

// ofSize has 64 elements and the Size, which is about 64 times MaxText.
func ofSize(kind, size int) api.Value {
	bytes := make([]int, 64)
	for i := range bytes {
		bytes[i] = (size-16+i)/64 - 16
	}
	return filled(kind, bytes)
}

// all is the number of each of its fields.
func all(kind int) api.Value {
	return api.Value{
		Kind: kind, Text: "1", List: []string{"22", ""}, Fields: []api.Field{{Name: "3", Text: "33"}, {Name: "4"}, {Text: "5"}},
		Scores: []api.Score{score("4444", 4), score("", 1), score("", 1), score("", -9)},
		Points: []api.Point{point("55555", 5), point("", 0.5), point("", 1), point("", 0), point("", 5i)},
	}
}

// validValues reach all limits.
func validValues() []api.Value {
	long := strings.Repeat("z", 4096)
	l := []api.Value{
		text(""), text("a"), text("\x00\xff\r\n\xc3("), text(long),
		list(""), list("b", "a", "", "a", "a"), list(long, long),
		hash("", ""), hash("a", "z", "b", ""), hash("", "1", "\x00", "2", "a", "3", "a\x00", "4", "ab", "5", "b", "6", "\xff", "7"), hash(long, long),
		scores(score("", 0)), scores(score("b", 1), score("a", 2)), scores(score("", 7), score("\x00", 7), score("a", 7), score("aa", 7), score("b", 7)),
		scores(score("z", math.MinInt64), score("y", -1), score("x", 0), score("w", 1), score("v", math.MaxInt64)), scores(score(long, -5)),
		points(point("", 0)), points(point("a", -most), point("b", -most*1i), point("c", most+most*1i)), points(point("", 3), point("\x00", 3), point("\xff", 3)), points(point(long, 1i)),
	}
	for kind := 2; kind <= 5; kind++ {
		l = append(l, many(kind, 2), many(kind, 999), many(kind, 1000), ofSize(kind, 1<<18), ofSize(kind, 1<<18-1))
	}
	return l
}

// invalidValues have a fault each.
func invalidValues() map[string]api.Value {
	long := strings.Repeat("z", 4097)
	m := map[string]api.Value{
		"no kind": {}, "a kind below": {Kind: -1}, "a kind above": {Kind: 6}, "the least kind": {Kind: math.MinInt}, "the greatest kind": {Kind: math.MaxInt}, "257": {Kind: 257, Text: "a"},
		"no kind, but a text": {Text: "a"}, "no kind, but elements": {List: []string{"a"}}, "a kind above, with a text": {Kind: 6, Text: "a"},
		"no list": {Kind: 2}, "no fields": {Kind: 3}, "no scores": {Kind: 4}, "no points": {Kind: 5},
		"an empty list": {Kind: 2, List: []string{}}, "empty points": {Kind: 5, Points: []api.Point{}},
		"a list with fields only": {Kind: 2, Fields: []api.Field{{Name: "a"}}}, "a hash with a text only": {Kind: 3, Text: "a"},
		"a long text": text(long), "a long string": list("a", long, "b"), "a long name of a field": hash("a", "1", long, ""), "a long text of a field": hash("a", long, "b", ""),
		"a long name with a score": scores(score(long, 1)), "a long name of a point": points(point("a", 1), point(long, 1)),
		"a longer text": text(strings.Repeat("z", 1<<20)), "a longer string": list(strings.Repeat("z", 1<<20)),
		"fields that fall": hash("b", "1", "a", "2"), "equal fields": hash("a", "1", "a", "2"), "fields that fall at last": hash("a", "", "b", "", "c", "", "bb", ""), "a field without a name behind others": hash("a", "", "", ""), "two without names": hash("", "1", "", "2"),
		"fields in the order of letters": hash("a", "", "B", ""), "a field in front of its beginning": hash("ab", "", "a", ""), "bytes as signed ones": hash("\xff", "", "a", ""),
		"scores that fall": scores(score("a", 2), score("b", 1)), "names that fall": scores(score("b", 1), score("a", 1)), "a name twice": scores(score("a", 1), score("a", 1)), "names that fall at last": scores(score("c", 0), score("a", 1), score("c", 1), score("b", 1)),
		"a name with two scores": scores(score("a", 1), score("a", 2)), "a name with two scores apart": scores(score("a", 1), score("b", 2), score("c", 2), score("a", 3)), "far scores that fall": scores(score("a", math.MaxInt64), score("b", math.MinInt64)),
		"no name, twice":   scores(score("", 1), score("", 2)),
		"points that fall": points(point("b", 1), point("a", 2)), "equal points": points(point("a", 1), point("a", 1)), "a name of two points": points(point("a", 1), point("a", 2)),
	}
	for _, part := range []float64{0.5, -0.5, most + 1, -most - 1, most + 0.5, minusZero, nan, otherNaN, math.Inf(1), math.Inf(-1), 1 << 53, math.MaxFloat64, math.SmallestNonzeroFloat64} {
		m[fmt.Sprint("real ", part, math.Float64bits(part))] = points(point("a", 1), point("b", complex(part, 0)))
		m[fmt.Sprint("imaginary ", part, math.Float64bits(part))] = points(point("a", complex(1, part)), point("b", 1))
	}
	for kind := 2; kind <= 5; kind++ {
		name := value.Name(kind)
		m["too many elements: "+name], m["far too many elements: "+name] = many(kind, 1001), many(kind, 9999)
		m["a great size: "+name], m["a greater size: "+name] = ofSize(kind, 1<<18+1), ofSize(kind, 1<<18+64)
	}
	for kind := -1; kind <= 6; kind++ {
		m[fmt.Sprint("all fields ", kind)] = all(kind)
	}
	return m
}

// mixedValues have, beside the field of their Kind, one of another Kind.
func mixedValues() []api.Value {
	var l []api.Value
	fields := []api.Value{text("a"), list("a"), hash("a", "a"), scores(score("a", 1)), points(point("a", 1))}
	for i, v := range fields {
		for j, other := range fields {
			if i != j {
				v.Text, v.List, v.Fields, v.Scores, v.Points = v.Text+other.Text, append(v.List, other.List...), append(v.Fields, other.Fields...), append(v.Scores, other.Scores...), append(v.Points, other.Points...)
				l = append(l, v)
				v = fields[i]
			}
		}
	}
	return l
}

func TestDocumentsExamples(t *testing.T) {
	if value.May(list()) {
		t.Error("9.1: May of a list without elements is true")
	}
	v := list("a", "b")
	c := value.Clone(v)
	if !value.Same(c, v) {
		t.Error("9.1: Same(Clone(v), v) is false")
	}
	if c.List[0] = "x"; v.List[0] != "a" {
		t.Error("9.1: changing the clone changes the value")
	}
	if n := value.Len(text("a")); n != 1 {
		t.Errorf("9.1: Len of the string a: %d", n)
	}
	if n := value.Size(text("a")); n != 17 {
		t.Errorf("9.1: Size of the string a: %d", n)
	}
	if s := value.Name(0); s != "none" {
		t.Errorf("9.1: Name(0): %q", s)
	}
	b, err := value.Put(text("a"))
	if !slices.Equal(b, []byte{1, 0, 0, 0, 1, 0x61}) || err != api.OK {
		t.Errorf("9.2: Put of the string a: %x, %d", b, err)
	}
	if v, err := value.Get(b[:5]); !isZero(v) || err != api.ErrBroken {
		t.Errorf("9.2: Get of the first five bytes: %s, %d", show(v), err)
	}
}

func isZero(v api.Value) bool {
	return v.Kind == 0 && v.Text == "" && v.List == nil && v.Fields == nil && v.Scores == nil && v.Points == nil
}

func TestMayOfValidValues(t *testing.T) {
	for _, v := range validValues() {
		if !value.May(v) {
			t.Errorf("9.1: May(%s) is false", show(v))
		}
	}
	v := text("a")
	v.List, v.Fields, v.Scores, v.Points = []string{}, []api.Field{}, []api.Score{}, []api.Point{}
	if !value.May(v) {
		t.Error("9.1: May of a string is false, beside empty lists")
	}
}

func TestMayOfInvalidValues(t *testing.T) {
	for what, v := range invalidValues() {
		if value.May(v) {
			t.Errorf("9.1: May is true for %s", what)
		}
	}
	for _, v := range mixedValues() {
		if value.May(v) {
			t.Errorf("9.1: May(%s) is true", show(v))
		}
	}
}

// Each size is the one that the value is said to have, so that the limit is met.
func TestSizesAroundTheLimit(t *testing.T) {
	for kind := 2; kind <= 5; kind++ {
		for size := 1<<18 - 70; size <= 1<<18+70; size++ {
			v := ofSize(kind, size)
			if got := value.Size(v); got != size {
				t.Fatalf("9.1: Size of kind %d: %d, want %d", kind, got, size)
			}
			if got := value.May(v); got != (size <= 1<<18) {
				t.Fatalf("9.1: May of kind %d and the size %d: %v", kind, size, got)
			}
		}
	}
}

func TestLenAndSizeByKind(t *testing.T) {
	for _, x := range []struct{ kind, length, size int }{
		{math.MinInt, 0, 16}, {-1, 0, 16}, {0, 0, 16}, {6, 0, 16}, {257, 0, 16}, {math.MaxInt, 0, 16},
		{1, 1, 17}, {2, 2, 16 + 32 + 2}, {3, 3, 16 + 48 + 5}, {4, 4, 16 + 64 + 4}, {5, 5, 16 + 80 + 5},
	} {
		v := all(x.kind)
		if n := value.Len(v); n != x.length {
			t.Errorf("9.1: Len of kind %d: %d, want %d", x.kind, n, x.length)
		}
		if n := value.Size(v); n != x.size {
			t.Errorf("9.1: Size of kind %d: %d, want %d", x.kind, n, x.size)
		}
		v = api.Value{Kind: x.kind}
		if n, size := value.Len(v), value.Size(v); n != 0 || size != 16 {
			t.Errorf("9.1: an empty value of kind %d: Len %d, Size %d", x.kind, n, size)
		}
	}
}

func TestLenAndSize(t *testing.T) {
	for _, x := range []struct {
		v            api.Value
		length, size int
	}{
		{text(""), 0, 16}, {text("\xe4\xb8\x96"), 3, 19}, {text(strings.Repeat("z", 5000)), 5000, 5016},
		{list(""), 1, 32}, {list("a", "", "ccc"), 3, 68}, {many(2, 3000), 3000, 16 + 3000*21},
		{hash("ab", "cde"), 1, 37}, {hash("", "", "a", "b"), 2, 50},
		{scores(score("ab", 1000000)), 1, 34}, {scores(score("", 1), score("", 1)), 2, 48},
		{points(point("abc", 5i)), 1, 35}, {points(point("", complex(nan, 0.5)), point("x", 1)), 2, 49},
	} {
		if n := value.Len(x.v); n != x.length {
			t.Errorf("9.1: Len(%s): %d, want %d", show(x.v), n, x.length)
		}
		if n := value.Size(x.v); n != x.size {
			t.Errorf("9.1: Size(%s): %d, want %d", show(x.v), n, x.size)
		}
	}
}

func TestName(t *testing.T) {
	for kind, want := range []string{"none", "string", "list", "hash", "scores", "points"} {
		if got := value.Name(kind); got != want {
			t.Errorf("9.1: Name(%d): %q, want %q", kind, got, want)
		}
	}
	for _, kind := range []int{-1, -2, 6, 7, 256, 257, 1 << 32, math.MinInt, math.MaxInt} {
		if got := value.Name(kind); got != "" {
			t.Errorf("9.1: Name(%d): %q", kind, got)
		}
	}
}

// differentValues are all different, though many differ by little.
func differentValues() []api.Value {
	l := append(mixedValues(),
		api.Value{}, api.Value{Kind: -1}, api.Value{Kind: 1}, api.Value{Kind: 2}, api.Value{Kind: 6}, api.Value{Text: "a"}, api.Value{List: []string{""}}, api.Value{Fields: []api.Field{{}}}, api.Value{Scores: []api.Score{{}}}, api.Value{Points: []api.Point{{}}},
		text("a"), text("A"), text("ab"), text("a\x00"), api.Value{Kind: 2, Text: "a"},
		list("a"), list("b"), list("a", "b"), list("b", "a"), list("ab"), list(""), list("", ""), list("a", ""), list("", "a"),
		hash("a", "b"), hash("b", "a"), hash("a", ""), hash("", "a"), hash("ab", ""), hash("a", "b", "c", "d"), hash("c", "d", "a", "b"), hash("", ""),
		scores(score("a", 1)), scores(score("a", 2)), scores(score("b", 1)), scores(score("a", 1), score("b", 1)), scores(score("b", 1), score("a", 1)), scores(score("a", math.MaxInt64)), scores(score("a", math.MinInt64)),
		points(point("a", 1)), points(point("b", 1)), points(point("a", 1i)), points(point("a", 1), point("b", 1)), points(point("b", 1), point("a", 1)), points(point("a", 1), point("a", 1)), points(point("a", 0.5)),
	)
	parts := []float64{0, minusZero, nan, math.Inf(1), math.Inf(-1), -1, math.MaxFloat64, math.SmallestNonzeroFloat64, -math.SmallestNonzeroFloat64}
	for _, x := range parts {
		for _, y := range parts {
			l = append(l, points(point("p", 7), point("q", complex(x, y))))
		}
	}
	return append(l, all(0), all(1), all(5))
}

func TestSame(t *testing.T) {
	l := differentValues()
	again := differentValues()
	for i, a := range l {
		for j, b := range again {
			if got := value.Same(a, b); got != (i == j) {
				t.Errorf("9.1: Same(%s, %s): %v", show(a), show(b), got)
			}
		}
	}
	for _, v := range validValues() {
		if !value.Same(v, v) {
			t.Errorf("9.1: %s is not the same as itself", show(v))
		}
	}
}

func TestSameOfNaNs(t *testing.T) {
	nans := []float64{nan, otherNaN, -nan, math.Float64frombits(0x7FF0000000000001), math.Float64frombits(0xFFFFFFFFFFFFFFFF)}
	for _, x := range nans {
		for _, y := range nans {
			a, b := points(point("a", complex(x, y)), point("b", complex(1, x))), points(point("a", complex(y, x)), point("b", complex(1, y)))
			if !value.Same(a, b) {
				t.Errorf("9.1: %x and %x are not the same", math.Float64bits(x), math.Float64bits(y))
			}
		}
	}
}

func TestSameOfEmptyLists(t *testing.T) {
	a := api.Value{Kind: 1, Text: "a"}
	b := api.Value{Kind: 1, Text: "a", List: []string{}, Fields: []api.Field{}, Scores: []api.Score{}, Points: []api.Point{}}
	if !value.Same(a, b) || !value.Same(b, a) {
		t.Error("9.1: an empty list is not the same as none")
	}
	if c := value.Clone(b); !value.Same(c, a) || !value.Same(c, b) {
		t.Errorf("9.1: the clone of empty lists: %s", show(c))
	}
}

// memory is where the parts of a value lie that have any bytes.
func memory(v api.Value) map[any]bool {
	m := map[any]bool{}
	add := func(texts ...string) {
		for _, s := range texts {
			if s != "" {
				m[unsafe.StringData(s)] = true
			}
		}
	}
	add(v.Text)
	add(v.List...)
	for i := range v.List {
		m[&v.List[i]] = true
	}
	for i, f := range v.Fields {
		m[&v.Fields[i]] = true
		add(f.Name, f.Text)
	}
	for i, e := range v.Scores {
		m[&v.Scores[i]] = true
		add(e.Name)
	}
	for i, p := range v.Points {
		m[&v.Points[i]] = true
		add(p.Name)
	}
	return m
}

func TestCloneSharesNothing(t *testing.T) {
	for _, v := range slices.Concat(validValues(), differentValues()) {
		c := value.Clone(v)
		if !value.Same(c, v) {
			t.Fatalf("9.1: Clone(%s): %s", show(v), show(c))
		}
		before := memory(v)
		for p := range memory(c) {
			if before[p] {
				t.Fatalf("9.1: Clone(%s) shares memory with it", show(v))
			}
		}
	}
}

func TestCloneCanBeChanged(t *testing.T) {
	for kind := range 7 {
		v := all(kind)
		v.List = v.List[:1:2]
		c := value.Clone(v)
		c.Text += "x"
		c.List[0] = "x"
		c.List = append(c.List, "x")
		c.Fields[1].Name, c.Fields[2].Text = "x", "x"
		c.Scores[3].Name, c.Scores[0].Score = "x", 99
		c.Points[4].Name, c.Points[0].At = "x", 99
		want := all(kind)
		want.List = want.List[:1]
		if !value.Same(v, want) || v.List[:2][1] != "" {
			t.Errorf("9.1: changing the clone changes the value: %s", show(v))
		}
	}
}

func TestArgumentsStay(t *testing.T) {
	for _, v := range slices.Concat(validValues(), differentValues()) {
		before := value.Clone(v)
		for range 2 {
			value.May(v)
			value.Same(v, v)
			value.Clone(v)
			value.Len(v)
			value.Size(v)
			value.Put(v)
		}
		if !value.Same(v, before) {
			t.Fatalf("9.1: %s was changed", show(before))
		}
	}
}
