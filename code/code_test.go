package code_test

import (
	"reflect"
	"slices"
	"strings"
	"testing"

	"scriptorium/api"
	"scriptorium/code"
	"scriptorium/parse"
	"scriptorium/scope"
	"scriptorium/tree"
)

// parsed returns the block of a right source.
func parsed(t testing.TB, source string) []api.Stat {
	t.Helper()
	l, err, at := parse.Script(source)
	if err != api.OK {
		t.Fatalf("Script(%.300q) is %d, %d", source, err, at)
	}
	return l
}

// wantRight asks for the Proto of a block that scope.Check accepts, with what 18.1 and
// 18.2 say of each.
func wantRight(t testing.TB, l []api.Stat) *code.Proto {
	t.Helper()
	p, err, at := code.Compile(l)
	if p == nil || err != api.OK || at != 0 {
		t.Fatalf("18.1: Compile of %.2000s is %v, %d, %d", tree.Text(l), p, err, at)
	}
	if !code.Check(p) {
		t.Fatalf("18.1: Check of the Proto of %.2000s is false", tree.Text(l))
	}
	if size, most := code.Size(p), 16+16*tree.Count(l); size > most {
		t.Fatalf("18.2: Size is %d, more than %d, for %.2000s", size, most, tree.Text(l))
	}
	return p
}

// wantError asks Source for this error at the place of the @ in a source.
func wantError(t *testing.T, want int, sources ...string) {
	t.Helper()
	for _, s := range sources {
		wantAt := strings.Index(s, "@")
		s = strings.Replace(s, "@", "", 1)
		if p, err, at := code.Source(s); p != nil || err != want || at != wantAt {
			t.Errorf("18.1: Source(%.300q) is %v, %d, %d, want nil, %d, %d", s, p, err, at, want, wantAt)
		}
	}
}

func TestExamples(t *testing.T) {
	if p, err, at := code.Source("return x"); p != nil || err != api.ErrSource || at != 7 {
		t.Errorf("18.1: Source of return x is %v, %d, %d", p, err, at)
	}
	if p, _, _ := code.Compile(parsed(t, "return 1 + 2")); !code.Check(p) {
		t.Error("18.1: Check of the Proto of return 1 + 2 is false")
	}
	if size := code.Size(nil); size != 0 {
		t.Errorf("18.2: Size of nil is %d", size)
	}
	if code.Check(nil) {
		t.Error("18.2: Check of nil is true")
	}
}

// What lex, parse and scope refuse has their errors, in this order.
func TestErrors(t *testing.T) {
	wantError(t, api.ErrSource,
		"@!", "x = @1a", "return @'a", "return @9223372036854775808", "@abcdefghijklmnopqrstuvwxyzabcdefg = 1",
		"x@", "return 1 +@", "return @return", "return @end", "if 1 @do", "return 1 @return 2", "local @1", "for i @do", "x() @= 1", "@(x)()", "return {1 @2}",
		"return @x", "@x = 1", "@type = 1", "@break", "local x = @x", "do local x end return @x", "while true do local f = function() @break end end", "for i = 1, @i do end", "repeat local x until @y", "KEYS.x = @keyS",
		"return x @!", "return x @)", "local a = x break @else", "return x@, ", "break return y @1a",
		"x = @'"+strings.Repeat("a", api.MaxText+1)+"'",
	)
	wantError(t, api.ErrLimit,
		"@"+strings.Repeat(" ", api.MaxSource+1), "@"+strings.Repeat("!", api.MaxSource+1),
		"return "+strings.Repeat("(", 99)+"@1", "return f("+strings.Repeat("1, ", 16)+"@1)", "return {"+strings.Repeat("1; ", 64)+"@1}", "return function("+strings.Repeat("a, ", 16)+"@a) end",
		strings.Repeat("local a ", 148)+"@local b = c", strings.Repeat("local a ", 147)+"@for k, v in b do end", "return function() "+strings.Repeat("local a ", 150)+"@local function f() end end",
	)
	for _, s := range []string{"", " ", "-- nothing", "return", "return 1", "local x", ";;"[:0], "do end", strings.Repeat(" ", api.MaxSource), strings.Repeat("local a ", 148), "local type type = 1", "KEYS = ARGV"} {
		p, err, at := code.Source(s)
		if p == nil || err != api.OK || at != 0 || !code.Check(p) {
			t.Errorf("18.1: Source(%.100q) is %v, %d, %d", s, p, err, at)
		}
	}
}

// wantSource asks for what 18.1 says of Source and of Compile.
func wantSource(t *testing.T, s string) (err int) {
	t.Helper()
	l, err, at := parse.Script(s)
	if err == api.OK {
		err, at = scope.Check(l)
		p, gotErr, gotAt := code.Compile(l)
		if gotErr != err || gotAt != at || (p == nil) != (err != api.OK) {
			t.Fatalf("18.1: Compile of %q is %v, %d, %d, want %d, %d", s, p, gotErr, gotAt, err, at)
		}
	}
	p, gotErr, gotAt := code.Source(s)
	if gotErr != err || gotAt != at || (p == nil) != (err != api.OK) {
		t.Fatalf("18.1: Source(%q) is %v, %d, %d, want %d, %d", s, p, gotErr, gotAt, err, at)
	}
	if err == api.OK && !reflect.DeepEqual(p, wantRight(t, l)) {
		t.Fatalf("18.1: Source(%q) is another Proto than that of its block", s)
	}
	return err
}

// Every source is rejected, or compiled to something that Check accepts (T3).
func TestAnySource(t *testing.T) {
	c := newChance()
	words := strings.Fields("a b KEYS type if then else end while do for in repeat until local function return break not and or nil true false 1 2 'x' \"\" = == ~= < <= > >= + - * // % .. . , ; ( ) [ ] { } # ! 1a")
	count := map[int]int{}
	for range 20000 {
		var l []string
		for range c.below(12) {
			l = append(l, words[c.below(len(words))])
		}
		count[wantSource(t, strings.Join(l, " "))]++
	}
	if count[api.OK] < 100 || count[api.ErrSource] < 10000 {
		t.Errorf("the sources are of few kinds: %v", count)
	}
}

// Where one token of a right source is another one, the source is rejected or right.
func TestDamagedSources(t *testing.T) {
	c := newChance()
	count := map[int]int{}
	for range 300 {
		words := strings.Fields(tree.Text(grown(c, 10+c.below(60))))
		for range 20 {
			at, from := c.below(len(words)+1), c.below(len(words)+1)
			damaged := slices.Clone(words)
			switch {
			case at == len(words) || from == len(words):
				damaged = damaged[:min(at, from)]
			case c.below(2) == 0:
				damaged[at] = words[from]
			default:
				damaged = slices.Delete(damaged, at, at+1)
			}
			count[wantSource(t, strings.Join(damaged, " "))]++
		}
	}
	if count[api.OK] < 200 || count[api.ErrSource] < 1000 {
		t.Errorf("the sources are of few kinds: %v", count)
	}
}

// The same block gives the same Proto, whatever was compiled before; blocks stay as they
// are, and what is done to a Proto or a block has nothing to do with other ones.
func TestSameAgain(t *testing.T) {
	c := newChance()
	for range 200 {
		l := grown(c, 10+c.below(100))
		before := copyOf(l)
		p := wantRight(t, l)
		want := wantRight(t, l)
		if !tree.Same(l, before) {
			t.Fatalf("Compile changed %s", tree.Text(before))
		}
		if !reflect.DeepEqual(p, want) {
			t.Fatalf("18.1: Compile of %s is another one each time", tree.Text(l))
		}
		for i := range p.Functions {
			clear(p.Functions[i].Code)
			clear(p.Functions[i].Taken)
		}
		clear(p.Functions)
		clear(p.Constants)
		if code.Check(p) {
			t.Fatal("18.2: Check of a Proto without anything is true")
		}
		spoil(l)
		if !code.Check(want) || !reflect.DeepEqual(want, wantRight(t, before)) {
			t.Fatalf("18.1: the Proto of %s changes", tree.Text(before))
		}
	}
}

// Places are of no importance, nor what names are called (17.4).
func TestPlacesAndNames(t *testing.T) {
	c := newChance()
	for range 200 {
		l := grown(c, 10+c.below(100))
		want := wantRight(t, l)
		for what, other := range map[string][]api.Stat{
			"without places":   tree.Bare(l),
			"from its text":    parsed(t, tree.Text(l)),
			"with other names": renamed(l),
		} {
			if !reflect.DeepEqual(want, wantRight(t, other)) {
				t.Fatalf("18.3: the block %s is another one %s", tree.Text(l), what)
			}
		}
	}
}

// A Proto holds no memory of its source.
func TestStringsAreCopied(t *testing.T) {
	source := "return {'some text', name = KEYS.key}"
	p, _, _ := code.Source(source)
	n := 0
	for _, x := range p.Constants {
		if x.S != "" {
			n++
			if shares(source, x.S) {
				t.Errorf("the constant %q lies in the source", x.S)
			}
		}
	}
	if n != 3 {
		t.Errorf("there are %d texts", n)
	}
}
