package tree_test

import (
	"math"
	"reflect"
	"strings"
	"testing"

	"scriptorium/api"
	"scriptorium/tree"
)

func wantSame(t *testing.T, a, b []api.Stat, want bool) {
	t.Helper()
	if tree.Same(a, b) != want || tree.Same(b, a) != want {
		t.Fatalf("15.1: Same(%s, %s): %v and %v, want %v", show(a), show(b), tree.Same(a, b), tree.Same(b, a), want)
	}
}

func TestExamples(t *testing.T) {
	near, far := parsed(t, "x = 1"), parsed(t, " x  = 1")
	wantSame(t, near, far, false)
	wantSame(t, tree.Bare(near), tree.Bare(far), true)
	if n := tree.Count(parsed(t, "return 1")); n != 2 {
		t.Errorf("15.1: Count of return 1 is %d", n)
	}
	if n := tree.Deep(parsed(t, "return 1 + 2 * 3")); n != 4 {
		t.Errorf("15.1: Deep of return 1 + 2 * 3 is %d", n)
	}
}

// sources has one of every statement and expression, and their variants.
func sources() []string {
	return []string{
		"", "local x", "local x = 1", "local y", "x = 1", "x.y = 1", "x[y] = 1", "x[1] = y", "f()", "f(1)", "f(1, 2)", "f(2, 1)", "f(x)()", "x.f()",
		"if x then end", "if x then else end", "if x then break end", "if x then else break end", "if x then elseif y then end", "if x then elseif y then else end",
		"if x then break elseif y then end", "if x then elseif y then break end", "if y then elseif x then end", "if x then else if y then end end",
		"while x do end", "while x do break end", "while y do end", "repeat until x", "repeat break until x", "do end", "do break end", "do do end end", "do end do end",
		"for x = 1, 2 do end", "for x = 1, 2, 3 do end", "for x = 2, 1 do end", "for y = 1, 2 do end", "for x = 1, 2 do break end",
		"for x, y in z do end", "for y, x in z do end", "for x, z in y do end", "for x, y in z do break end",
		"break", "break break", "break return", "return", "return nil", "return true", "return false", "return 0", "return 1", "return 9223372036854775807",
		"return ''", "return 'x'", "return x", "return 'X'", "return '1'",
		"return function() end", "return function(x) end", "return function(y) end", "return function(x, y) end", "return function(y, x) end",
		"return function() break end", "return function() return end", "return function() return x end", "local function x() end", "local function y() end",
		"local function x(x) end", "local function x() break end", "local x = function() end",
		"return {}", "return {1}", "return {1, 1}", "return {1, 2}", "return {x = 1}", "return {y = 1}", "return {[1] = 1}", "return {['x'] = 1}", "return {[x] = 1}", "return {[1] = 1, 1}",
		"return x.y", "return x[y]", "return x[1]", "return y.x", "return x()", "return x(y)", "return x(y, x)", "return not x", "return -x", "return #x", "return - -x",
		"return x + y", "return y + x", "return x - y", "return x * y", "return x // y", "return x % y", "return x .. y", "return x == y", "return x ~= y", "return x < y",
		"return x <= y", "return x > y", "return x >= y", "return x and y", "return x or y", "return x and y or x", "return x and (y or x)", "return (x + y) + x", "return x + (y + x)",
	}
}

// All sources have other trees, also without places.
func TestSameOfSources(t *testing.T) {
	for i, one := range sources() {
		for j, other := range sources() {
			a, b := parsed(t, one), parsed(t, other)
			wantSame(t, a, b, i == j)
			wantSame(t, tree.Bare(a), tree.Bare(b), i == j)
		}
	}
}

// The same tree at another place is not the Same.
func TestSamePlaces(t *testing.T) {
	for _, s := range sources()[1:] {
		a := parsed(t, s)
		for _, other := range []string{" " + s, "\n" + s, "--\n " + s} {
			wantSame(t, a, parsed(t, other), false)
			wantSame(t, tree.Bare(a), tree.Bare(parsed(t, other)), true)
		}
		for _, other := range []string{s + " ", s + "\n--"} {
			wantSame(t, a, parsed(t, other), true)
		}
	}
}

// wantChangesFound changes each thing of a block by itself, and asks whether Same knows.
func wantChangesFound(t *testing.T, l []api.Stat) {
	t.Helper()
	other := copyOf(l)
	wantSame(t, l, other, true)
	visit(&other, func(v reflect.Value) {
		before := reflect.New(v.Type()).Elem()
		before.Set(v)
		change := func(to reflect.Value) {
			v.Set(to)
			wantSame(t, l, other, false)
			v.Set(before)
		}
		switch v.Kind() {
		case reflect.Int, reflect.Int64:
			for _, n := range []int64{v.Int() + 1, v.Int() - 1, -v.Int() - 1, v.Int() ^ math.MinInt64, v.Int() ^ 1<<32} {
				change(reflect.ValueOf(n).Convert(v.Type()))
			}
		case reflect.String:
			change(reflect.ValueOf(v.String() + "x"))
			if v.Len() > 0 {
				change(reflect.ValueOf(""))
				change(reflect.ValueOf(v.String()[1:]))
				change(reflect.ValueOf(v.String()[:v.Len()-1] + "\xfe"))
			}
		case reflect.Slice:
			zero := reflect.Zero(v.Type().Elem())
			longer := reflect.MakeSlice(v.Type(), 0, 0)
			change(reflect.Append(reflect.AppendSlice(longer, v), zero))
			change(reflect.AppendSlice(reflect.Append(longer, zero), v))
			if v.Len() > 0 {
				change(v.Slice(1, v.Len()))
				change(v.Slice(0, v.Len()-1))
				change(reflect.Zero(v.Type()))
			} else {
				v.Set(longer)
				wantSame(t, l, other, true)
				v.Set(reflect.Zero(v.Type()))
				wantSame(t, l, other, true)
				v.Set(before)
			}
		}
	})
	wantSame(t, l, other, true)
}

func TestSameFindsEachChange(t *testing.T) {
	for _, s := range sources() {
		wantChangesFound(t, parsed(t, s))
	}
	for _, l := range blocksOfAllSorts(80) {
		wantChangesFound(t, setPlaces(l))
	}
	wantChangesFound(t, oddBlock())
}

// oddBlock has everything everywhere, whether a kind has it or not.
func oddBlock() []api.Stat {
	inner := []api.Stat{{Kind: -1, At: -7, Names: []string{"", "\xff"}, L: []api.Exp{{}, {Kind: api.ExpFunc}}, Blocks: [][]api.Stat{nil, {{}}}}}
	e := api.Exp{Kind: api.ExpInt, At: math.MinInt, N: -5, S: "s", Op: 99, L: []api.Exp{{Kind: 1 << 40}}, F: []api.Func{{}, {Params: []string{"end", "1"}, Body: inner}}}
	l := []api.Stat{{Kind: api.StatBreak, At: math.MaxInt, Names: []string{"a", "b", "c"}, L: []api.Exp{e, e}, Blocks: [][]api.Stat{inner, nil, inner}}}
	for kind := range 20 {
		l = append(l, api.Stat{Kind: kind, Names: []string{"n"}, L: []api.Exp{{Kind: kind, At: 1, N: 2, S: "3", Op: 4, L: []api.Exp{e}, F: []api.Func{{Body: inner}}}}, Blocks: [][]api.Stat{inner}})
	}
	return l
}

func TestSameOfNothing(t *testing.T) {
	wantSame(t, nil, nil, true)
	wantSame(t, nil, []api.Stat{}, true)
	wantSame(t, nil, []api.Stat{{}}, false)
	wantSame(t, []api.Stat{{}}, []api.Stat{{Names: []string{}, L: []api.Exp{}, Blocks: [][]api.Stat{}}}, true)
	wantSame(t, []api.Stat{{Blocks: [][]api.Stat{nil}}}, []api.Stat{{Blocks: [][]api.Stat{{}}}}, true)
	wantSame(t, []api.Stat{{Blocks: [][]api.Stat{nil}}}, []api.Stat{{}}, false)
	wantSame(t, []api.Stat{{L: []api.Exp{{}}}}, []api.Stat{{L: []api.Exp{{L: []api.Exp{}, F: []api.Func{}}}}}, true)
	wantSame(t, []api.Stat{{L: []api.Exp{{F: []api.Func{{}}}}}}, []api.Stat{{L: []api.Exp{{F: []api.Func{{Params: []string{}, Body: []api.Stat{}}}}}}}, true)
	wantSame(t, []api.Stat{{L: []api.Exp{{F: []api.Func{{}}}}}}, []api.Stat{{L: []api.Exp{{}}}}, false)
}

// wantBare holds Bare against a copy of which each At is set to 0 by hand.
func wantBare(t *testing.T, l []api.Stat) {
	t.Helper()
	before, want := copyOf(l), copyOf(l)
	visit(&want, func(v reflect.Value) {
		if v.Kind() == reflect.Struct && v.FieldByName("At").IsValid() {
			v.FieldByName("At").SetInt(0)
		}
	})
	got := tree.Bare(l)
	if !reflect.DeepEqual(l, before) {
		t.Fatalf("15.1: Bare(%s) changes its argument to %s", show(before), show(l))
	}
	if !tree.Same(got, want) || !reflect.DeepEqual(got, want) {
		t.Fatalf("15.1: Bare(%s) is %s, want %s", show(l), show(got), show(want))
	}
	wantSame(t, tree.Bare(got), got, true)
	wantNothingShared(t, l, before, got, want)
}

// wantNothingShared changes all that Bare returned, thing by thing, and sees whether anything
// else changes: what it was given, or another part of what it returned.
func wantNothingShared(t *testing.T, l, before, got, want []api.Stat) {
	t.Helper()
	marked := map[uintptr]bool{}
	visit(&got, func(v reflect.Value) {
		if v.Kind() == reflect.Slice && v.Len() > 0 {
			if marked[v.Pointer()] {
				t.Fatalf("15.1: two lists of Bare(%s) share memory", show(l))
			}
			marked[v.Pointer()] = true
			// If lists shared an array behind their ends, this would write into another one.
			reflect.Append(v, reflect.Zero(v.Type().Elem()))
		}
	})
	if !tree.Same(got, want) {
		t.Fatalf("15.1: what is added to a list of Bare(%s) changes another one", show(l))
	}
	visit(&l, func(v reflect.Value) {
		if v.Kind() == reflect.Slice && v.Len() > 0 && marked[v.Pointer()] {
			t.Fatalf("15.1: Bare(%s) shares memory with its argument", show(l))
		}
	})
	visit(&got, func(v reflect.Value) {
		switch v.Kind() {
		case reflect.Int, reflect.Int64:
			v.SetInt(v.Int() + 77)
		case reflect.String:
			v.SetString("changed")
		}
	})
	if !reflect.DeepEqual(l, before) {
		t.Fatalf("15.1: changes of Bare(%s) change the argument", show(before))
	}
}

func TestBare(t *testing.T) {
	for _, s := range sources() {
		wantBare(t, parsed(t, s))
		wantBare(t, parsed(t, " \n"+s))
	}
	for _, l := range blocksOfAllSorts(500) {
		wantBare(t, l)
		wantBare(t, setPlaces(l))
		wantSame(t, tree.Bare(setPlaces(l)), l, true)
	}
	wantBare(t, oddBlock())
	if l := tree.Bare(nil); len(l) != 0 {
		t.Errorf("15.1: Bare(nil) is %s", show(l))
	}
	if l := tree.Bare([]api.Stat{}); len(l) != 0 {
		t.Errorf("15.1: Bare of an empty block is %s", show(l))
	}
}

// A tree that has a part in two places has it twice in the copy.
func TestBareOfSharedParts(t *testing.T) {
	names := []string{"x", "y", "z"}
	block := []api.Stat{{Kind: api.StatLocal, At: 1, Names: names[:1:1]}}
	exps := []api.Exp{{Kind: api.ExpFunc, At: 2, F: []api.Func{{Params: names[:2], Body: block}}}}
	l := []api.Stat{{Kind: api.StatIf, Names: names, L: exps, Blocks: [][]api.Stat{block, block}}, {Kind: api.StatReturn, Names: names[:1], L: exps}}
	wantBare(t, l)
	wantBare(t, l[:1])
}

func TestCount(t *testing.T) {
	for s, want := range map[string]int{
		"": 0, "break": 1, "return": 1, "return 1": 2, "local x": 1, "local x = 1": 2, "x = 1": 3, "x.y = 1": 5, "x[1] = 2": 5, "x[1].y = 2": 7,
		"f()": 2 + 1, "f(1, 2)": 2 + 3, "f(1)(2)": 3 + 3, "do end": 1, "do break end": 2, "do do end do end end": 3,
		"if x then end": 2, "if x then else end": 2, "if x then break elseif y then break break else break end": 7,
		"while true do end": 2, "repeat until false": 2, "repeat break until x": 3, "for i = 1, 2 do end": 3, "for i = 1, 2, 3 do break end": 5, "for k, v in t do end": 2, "for k, v in t do break end": 3,
		"local function f(a, b, c) end": 2, "local function f() return 1 end": 4, "return function() end": 2, "return function(a, b) return a + b end": 6,
		"return {}": 2, "return {1}": 4, "return {1, 2, 3}": 8, "return {a = 1}": 4, "return {[1] = 2}": 4, "return {[1 + 2] = 3}": 6, "return {{}, {}}": 6,
		"return x.y": 4, "return x[1]": 4, "return -1": 3, "return not not x": 4, "return #'x'": 3, "return (((x)))": 2,
		"return 1 + 2 * 3": 6, "return a and b or c": 6, "break break break": 3,
	} {
		if got := tree.Count(parsed(t, s)); got != want {
			t.Errorf("15.1: Count of %q is %d, want %d", s, got, want)
		}
	}
}

// countOf counts what is a statement or an expression, wherever it stands.
func countOf(l []api.Stat) int {
	n := 0
	visit(&l, func(v reflect.Value) {
		if v.Type() == reflect.TypeFor[api.Stat]() || v.Type() == reflect.TypeFor[api.Exp]() {
			n++
		}
	})
	return n
}

func TestCountOfAllSorts(t *testing.T) {
	for _, l := range append(blocksOfAllSorts(1000), nil, []api.Stat{}, oddBlock()) {
		before := copyOf(l)
		if got, want := tree.Count(l), countOf(l); got != want || got != tree.Count(tree.Bare(l)) {
			t.Fatalf("15.1: Count(%s) is %d, want %d", show(l), got, want)
		}
		if !reflect.DeepEqual(l, before) {
			t.Fatalf("15.1: Count(%s) changes its argument", show(before))
		}
	}
}

func TestDeep(t *testing.T) {
	for s, want := range map[string]int{
		"": 0, "break": 1, "return": 1, "local x": 1, "break break return": 1, "return 1": 2, "local x = 1": 2, "x = 1": 2, "x = -1": 3, "x.y = 1": 3, "x.y.z = 1": 4, "x[-1] = 1": 4, "x = y.z": 3,
		"f()": 3, "f(1)": 3, "f(-1)": 4, "f(1, -2, 3)": 4, "f()()": 4, "f()()(1)": 5, "f(g(h()))": 5,
		"do end": 1, "do break end": 2, "do do end end": 2, "do do break end end": 3, "do return 1 end": 3, "break do break end break": 2, "do break end do do break end end break": 3,
		"if x then end": 2, "if x then break end": 2, "if x then return 1 end": 3, "if x then else break end": 2, "if x then elseif -y then else end": 3, "if x then elseif y then else return -1 end": 4, "if - -x then break end": 4,
		"while x do end": 2, "while x do return 1 end": 3, "repeat until x": 2, "repeat until -x": 3, "repeat do break end until x": 3, "for i = 1, 2 do end": 2, "for i = 1, -2 do end": 3, "for i = 1, 2, - -3 do break end": 4, "for k, v in t do do end end": 2, "for k, v in t do do break end end": 3, "for k, v in t.u do end": 3,
		"local function f() end": 2, "local function f() break end": 3, "local function f() return 1 end": 4, "return function(a, b) end": 2, "return function() return function() end end": 4, "return function() return function() break end end": 5, "local f = function() do break end end": 4,
		"return nil": 2, "return {}": 2, "return {1}": 3, "return {{}}": 3, "return {x = {}}": 3, "return {[{}] = 1}": 3, "return {[{{}}] = 1}": 4, "return {1, {2, {3}}, 4}": 5, "return {a = -1}": 4,
		"return x.y": 3, "return x[y]": 3, "return x[y[z]]": 4, "return x.y.z": 4, "return not x": 3, "return - - -x": 5, "return #x": 3, "return 1 + 2": 3, "return 1 + 2 * 3": 4, "return 1 * 2 + 3": 4, "return 1 + 2 + 3 + 4": 5, "return 1 .. 2 .. 3": 4, "return a and b": 3, "return a or b and c": 4, "return ((1))": 2, "return (1 + 2) * (3 + 4)": 4,
	} {
		if got := tree.Deep(parsed(t, s)); got != want {
			t.Errorf("15.1: Deep of %q is %d, want %d", s, got, want)
		}
	}
}

// depthOf goes by the words of 15.1: from each thing outwards, one more for a block that
// has it and for an expression that has it.
func depthOf(l []api.Stat) int {
	most := 0
	var block func([]api.Stat, int)
	var exp func(api.Exp, int)
	block = func(l []api.Stat, around int) {
		if len(l) == 0 {
			return
		}
		around++
		most = max(most, around)
		for _, s := range l {
			for _, e := range s.L {
				exp(e, around)
			}
			for _, b := range s.Blocks {
				block(b, around)
			}
		}
	}
	exp = func(e api.Exp, around int) {
		around++
		most = max(most, around)
		for _, part := range e.L {
			exp(part, around)
		}
		for _, f := range e.F {
			block(f.Body, around)
		}
	}
	block(l, 0)
	return most
}

func TestDeepOfAllSorts(t *testing.T) {
	deepest := 0
	for _, l := range append(blocksOfAllSorts(2000), nil, []api.Stat{}, oddBlock()) {
		before := copyOf(l)
		got, want := tree.Deep(l), depthOf(l)
		if got != want || got != tree.Deep(tree.Bare(l)) {
			t.Fatalf("15.1: Deep(%s) is %d, want %d", show(l), got, want)
		}
		if !reflect.DeepEqual(l, before) {
			t.Fatalf("15.1: Deep(%s) changes its argument", show(before))
		}
		deepest = max(deepest, got)
	}
	if deepest < 30 {
		t.Errorf("15.1: the deepest block is only %d deep", deepest)
	}
}

// levelsOf are blocks with so many levels of nesting, by parts, blocks and functions.
func levelsOf(n int) map[string][]api.Stat {
	unary, index, table := api.Exp{Kind: api.ExpNil}, api.Exp{Kind: api.ExpNil}, api.Exp{Kind: api.ExpNil}
	var blocks, choices, functions []api.Stat
	for range n {
		unary = api.Exp{Kind: api.ExpMinus, At: 1, L: []api.Exp{unary}}
		index = api.Exp{Kind: api.ExpIndex, At: 1, L: []api.Exp{{Kind: api.ExpNil}, index}}
		table = api.Exp{Kind: api.ExpTable, At: 1, L: []api.Exp{table, {Kind: api.ExpNil}}}
		blocks = []api.Stat{{Kind: api.StatDo, At: 1, Blocks: [][]api.Stat{blocks}}}
		choices = []api.Stat{{Kind: api.StatIf, At: 1, L: []api.Exp{{Kind: api.ExpNil}}, Blocks: [][]api.Stat{nil, choices}}}
		functions = []api.Stat{{Kind: api.StatReturn, At: 1, L: []api.Exp{{Kind: api.ExpFunc, F: []api.Func{{Body: functions}}}}}}
	}
	return map[string][]api.Stat{
		"unary":   {{Kind: api.StatReturn, L: []api.Exp{unary}}},
		"index":   {{Kind: api.StatReturn, L: []api.Exp{index}}},
		"table":   {{Kind: api.StatReturn, L: []api.Exp{table}}},
		"blocks":  blocks,
		"choices": choices, "functions": functions,
	}
}

func TestManyLevels(t *testing.T) {
	const n = 1 << 16
	count := map[string]int{"unary": n + 2, "index": 2*n + 2, "table": 2*n + 2, "blocks": n, "choices": 2 * n, "functions": 2 * n}
	deep := map[string]int{"unary": n + 2, "index": n + 2, "table": n + 2, "blocks": n, "choices": n + 1, "functions": 2 * n}
	part := map[string]string{"unary": "(-", "index": "(nil)[", "table": "{[", "blocks": "do\n", "choices": "else\n", "functions": "return function()\n"}
	for name, l := range levelsOf(n) {
		bare := tree.Bare(l)
		if tree.Same(l, bare) || !tree.Same(l, l) || !tree.Same(bare, tree.Bare(bare)) {
			t.Errorf("15.1: Same or Bare of many levels (%s) is wrong", name)
		}
		if tree.Count(l) != count[name] || tree.Count(bare) != count[name] {
			t.Errorf("15.1: Count of many levels (%s) is %d, want %d", name, tree.Count(l), count[name])
		}
		if tree.Deep(l) != deep[name] || tree.Deep(bare) != deep[name] {
			t.Errorf("15.1: Deep of many levels (%s) is %d, want %d", name, tree.Deep(l), deep[name])
		}
		if text := tree.Text(l); strings.Count(text, part[name]) != n {
			t.Errorf("15.2: Text of many levels (%s) has %d times %q", name, strings.Count(text, part[name]), part[name])
		}
	}
}

func TestManyStatements(t *testing.T) {
	const n = 1 << 18
	l := make([]api.Stat, n)
	for i := range l {
		l[i] = api.Stat{Kind: api.StatLocal, At: i, Names: []string{"x"}, L: []api.Exp{{Kind: api.ExpInt, At: i, N: int64(i)}}}
	}
	bare := tree.Bare(l)
	if len(bare) != n || tree.Same(bare, l) || !tree.Same(bare, tree.Bare(l)) {
		t.Error("15.1: Same or Bare of many statements is wrong")
	}
	if tree.Count(l) != 2*n || tree.Deep(l) != 2 {
		t.Errorf("15.1: many statements: Count %d, Deep %d", tree.Count(l), tree.Deep(l))
	}
	if text := tree.Text(l); strings.Count(text, "\n") != n {
		t.Errorf("15.2: many statements: %d lines", strings.Count(text, "\n"))
	}
	bare[n-1].L[0].N = 0
	if tree.Same(bare, tree.Bare(l)) {
		t.Error("15.1: Same does not see the last number")
	}
}
