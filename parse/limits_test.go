package parse_test

import (
	"reflect"
	"slices"
	"strings"
	"testing"
	"unsafe"

	"scriptorium/api"
	"scriptorium/parse"
	"scriptorium/tree"
)

// times are n texts with something in between.
func times(n int, text, between string) string {
	return strings.Join(slices.Repeat([]string{text}, n), between)
}

// The depth, counted by hand: the script's block is 1 deep, and an expression in it 2.
// One part more than most of them is too deep, at a place in it.
func TestDepthByHand(t *testing.T) {
	for _, x := range []struct {
		before, part, inside, close string
		most, at                    int
	}{
		{"return ", "(", "x", ")", 98, 1},
		{"x=", "(", "x", ")", 98, 1},
		{"return ", "- ", "x", "", 98, 2},
		{"return ", "#", "x", "", 98, 1},
		{"return ", "not ", "x", "", 98, 4},
		{"return ", "x..", "x", "", 98, 3},
		{"return ", "x+y..", "x", "", 98, 5},
		{"return ", "{", "x", "}", 98, 1},
		{"return ", "{x=", "x", "}", 98, 3},
		{"return ", "{[", "x", "]=1}", 98, 2},
		{"return ", "{[1]=", "x", "}", 98, 2},
		{"return ", "x[", "x", "]", 98, 2},
		{"return ", "f(", "x", ")", 98, 2},
		{"return ", "f(x,", "x", ")", 98, 2},
		{"return ", "(f)(", "x", ")", 98, 1},
		{"return ", "(-", "x", ")", 49, 1},
		{"return ", "(x..", "x", ")", 49, 1},
		{"return x..", "(x..", "x", ")", 48, 4},
		{"return ", "function() return ", "x", " end", 49, 11},
		{"x=y x=z return ", "(", "x", ")", 98, 1},
		{"", "do ", "", "end ", 99, 3},
		{"", "do ", "break ", "end ", 99, 3},
		{"", "if x then ", "", "end ", 99, 3},
		{"", "if x then else ", "", "end ", 99, 3},
		{"", "while x do ", "", "end ", 99, 6},
		{"", "repeat ", "", "until x ", 99, 7},
		{"", "for i=1,2 do ", "", "end ", 99, 6},
		{"", "for k,v in t do ", "", "end ", 99, 11},
		{"", "local function f() ", "", "end ", 99, 19},
		{"", "f(function() ", "", "end)", 49, 13},
	} {
		wantRight(t, x.before+strings.Repeat(x.part, x.most)+x.inside+strings.Repeat(x.close, x.most))
		source := x.before + strings.Repeat(x.part, x.most+1) + x.inside + strings.Repeat(x.close, x.most+1)
		wantError(t, source, api.ErrLimit, len(x.before)+x.most*len(x.part)+x.at)
		source = x.before + strings.Repeat(x.part, x.most+2)
		wantError(t, source, api.ErrLimit, len(x.before)+x.most*len(x.part)+x.at)
	}
	wantError(t, strings.Repeat("do ", 99)+"return 1", api.ErrLimit, 304)
	wantError(t, strings.Repeat("do ", 99)+"return )", api.ErrLimit, 304)
	wantError(t, strings.Repeat("do ", 98)+"return )", api.ErrSource, 301)
	wantRight(t, strings.Repeat("do ", 99)+"return"+strings.Repeat(" end", 99))
	wantRight(t, strings.Repeat("do ", 99)+"return;"+strings.Repeat(" end", 99))
	wantRight(t, strings.Repeat("do ", 99)+"f() local x break"+strings.Repeat(" end", 99))
	wantError(t, strings.Repeat("do ", 99)+"f().x.y = 1", api.ErrLimit, 307)
	wantError(t, strings.Repeat("do ", 100)+")", api.ErrLimit, 300)
	wantError(t, strings.Repeat("do ", 99)+")", api.ErrSource, 297)
	wantError(t, strings.Repeat("do ", 100), api.ErrLimit, 300)
	wantError(t, strings.Repeat("do ", 99), api.ErrSource, 297)
	wantError(t, "x="+strings.Repeat("(", 99)+")", api.ErrLimit, 101)
	wantError(t, "x="+strings.Repeat("(", 98)+")", api.ErrSource, 100)
	wantError(t, "x=) "+strings.Repeat("(", 99), api.ErrSource, 2)
}

// How many parameters there may be: beyond them the limit is met where one more would
// begin.
func TestParams(t *testing.T) {
	for before, after := range map[string]string{"x = function(": ") end", "local function f(": ") end", "f(function(": ") end)"} {
		wantRight(t, before+times(15, "a", ",")+after)
		wantRight(t, before+times(16, "a", ",")+after)
		for _, more := range []string{"a", "a, a", ")", "1", "a.", "end", "", ",", ", 1", ".."} {
			wantError(t, before+times(16, "a", ",")+" , "+more+after, api.ErrLimit, len(before)+34)
		}
		wantError(t, before+times(16, "a", ",")+" b , a"+after, api.ErrSource, len(before)+32)
		wantError(t, before+times(15, "a", ",")+", 1, a, a"+after, api.ErrSource, len(before)+31)
		wantError(t, before+times(16, "a", ","), api.ErrSource, len(before)+31)
		wantError(t, before+times(16, "a", ",")+",", api.ErrLimit, len(before)+32)
	}
}

// How many arguments.
func TestArguments(t *testing.T) {
	for before, after := range map[string]string{"f(": ")", "x = f(": ")", "x.y(": ")", "x = (f)(": ")", "x = f(1)(": ")", "x = {f(": ")}"} {
		wantRight(t, before+times(15, "1", ",")+after)
		wantRight(t, before+times(16, "1", ",")+after)
		wantRight(t, before+times(16, "f("+times(16, "1", ",")+")", ",")+after)
		for _, more := range []string{"1", "1, 1", ")", "=", "(1)", "-1", "function(", "end", "", ",", "then"} {
			wantError(t, before+times(16, "1", ",")+" , "+more+after, api.ErrLimit, len(before)+34)
		}
		wantError(t, before+times(16, "1", ",")+" 1, 1"+after, api.ErrSource, len(before)+32)
		wantError(t, before+times(15, "1", ",")+", =, 1, 1"+after, api.ErrSource, len(before)+31)
		wantError(t, before+times(16, "1", ","), api.ErrSource, len(before)+31)
		wantError(t, before+times(16, "1", ",")+",", api.ErrLimit, len(before)+32)
	}
}

// How many fields, of whatever form they are.
func TestFields(t *testing.T) {
	for _, field := range []string{"1", "x", "x=1", "[1]=1", "{}", "f()", "f(1,2)", "{x=1;2}"} {
		for _, sign := range []string{",", ";"} {
			few := "x={" + times(63, field, sign)
			most := few + sign + field
			wantRight(t, few+"}")
			wantRight(t, most+"}")
			wantRight(t, most+sign+"}")
			for _, more := range []string{"1", "x", "x=1", "[1]=1", "(1)", "-1", "=", ",", ";", ")", "]", "end", "function("} {
				wantError(t, most+sign+" "+more, api.ErrLimit, len(most)+2)
				wantError(t, most+sign+" "+more+" 2}", api.ErrLimit, len(most)+2)
			}
			wantError(t, most+sign, api.ErrLimit, len(most)+1)
			wantError(t, most+" y}", api.ErrSource, len(most)+1)
			wantError(t, most, api.ErrSource, len(most))
			wantError(t, few+sign+"=,1,1,1", api.ErrSource, len(few)+1)
		}
	}
	wantRight(t, "x={"+times(32, "1,x=2", ";")+"}")
	wantError(t, "x={"+times(32, "1,x=2", ";")+";3}", api.ErrLimit, 3+32*6)
	wantRight(t, "x={"+times(64, "{"+times(64, "1", ",")+"}", ",")+"}")
	wantRight(t, "f({"+times(64, "1", ",")+"},"+times(15, "1", ",")+")")
}

// Sources as long as they may be, which are deep only where depth is not limited.
func TestLongSources(t *testing.T) {
	for _, x := range []struct {
		before, part, after string
		things              int
	}{
		{"x=1", "+1", "", 2}, {"x=1", "*x", "", 2}, {"x=1", " and 1", "", 2}, {"x=1", " or 1", "", 2}, {"x=1", "==1", "", 2}, {"x=1", "//1", "", 2},
		{"x=x", ".x", "", 2}, {"x=x", "[1]", "", 2}, {"x=x", "()", "", 1}, {"x", "()", "", 1}, {"x", ".x", "=1", 2},
		{"", "x=1 ", "", 3}, {"", "x=1;", "", 3}, {"", "break ", "", 1}, {"", "f()", ";", 3}, {"", "do end ", "", 1}, {"if x then ", "elseif x then ", "end", 1}, {"", "local x ", "", 1},
		{"local function f()", "x=1 ", "end", 3},
	} {
		n := (api.MaxSource - len(x.before) - len(x.after)) / len(x.part)
		short := wantRight(t, x.before+x.part+x.after)
		l := wantRight(t, x.before+strings.Repeat(x.part, n)+x.after)
		if got, want := tree.Count(l), tree.Count(short)+(n-1)*x.things; got != want {
			t.Errorf("16.1: %q, %d times %q and %q: %d things, want %d", x.before, n, x.part, x.after, got, want)
		}
	}
	for _, part := range []string{"(", "{", "- ", "f(", "x[", "do ", "repeat ", "x=", "..", "if x then ", "function(", "not ", "{[", "end "} {
		source := "x=" + strings.Repeat(part, (api.MaxSource-2)/len(part))
		if l, err, at := parse.Script(source); len(l) != 0 || err == api.OK || at > 1000 {
			t.Errorf("16.2: Script of x= and many %q: %d, %d", part, err, at)
		}
	}
}

// Whatever a source is, there is a block, or else one of two errors at a place in it.
func TestAnySource(t *testing.T) {
	c := newChance()
	for range 3000 {
		source, _ := derived(c)
		b := []byte(source)
		for range 1 + c.below(4) {
			if len(b) == 0 {
				break
			}
			from := c.below(len(b))
			to := min(from+1+c.below(6), len(b))
			switch c.below(3) {
			case 0:
				b = slices.Delete(b, from, to)
			case 1:
				b = slices.Insert(b, from, b[c.below(to):to]...)
			case 2:
				b[from] = byte(c.below(256))
			}
		}
		wantAny(t, string(b))
		wantAny(t, source[:c.below(len(source))])
	}
	for range 2000 {
		b := make([]byte, c.below(40))
		for i := range b {
			b[i] = byte(c.below(256))
		}
		wantAny(t, string(b))
	}
}

func wantAny(t *testing.T, source string) {
	t.Helper()
	l, err, at := parse.Script(source)
	switch {
	case err == api.OK && at == 0:
		wantBack(t, l)
	case (err == api.ErrSource || err == api.ErrLimit) && len(l) == 0 && at >= 0 && at <= len(source):
	default:
		t.Fatalf("16.2: Script(%.1000q) is %s, %d, %d", source, show(l), err, at)
	}
	again, againErr, againAt := parse.Script(strings.Clone(source))
	if !tree.Same(l, again) || err != againErr || at != againAt {
		t.Fatalf("Script(%.1000q) is %d, %d, and then %d, %d", source, err, at, againErr, againAt)
	}
}

// No two lists of a tree share memory, no list has any of another tree, and no text has
// any of the source.
func TestMemory(t *testing.T) {
	c := newChance()
	for range 200 {
		source, _ := derived(c)
		l := wantRight(t, source)
		from := uintptr(unsafe.Pointer(unsafe.StringData(source)))
		var ends []span
		visit(reflect.ValueOf(l), func(v reflect.Value) {
			switch v.Kind() {
			case reflect.Slice:
				if size := uintptr(v.Cap()) * v.Type().Elem().Size(); size > 0 {
					ends = append(ends, span{v.Pointer(), v.Pointer() + size})
				}
			case reflect.String:
				s := v.String()
				if at := uintptr(unsafe.Pointer(unsafe.StringData(s))); s != "" && at >= from && at < from+uintptr(len(source)) {
					t.Fatalf("%q is a part of the source", s)
				}
			}
		})
		slices.SortFunc(ends, func(a, b span) int { return int(a.from) - int(b.from) })
		for i := 1; i < len(ends); i++ {
			if ends[i].from < ends[i-1].to {
				t.Fatalf("two lists of Script(%.1000q) share memory", source)
			}
		}
	}
}

type span struct{ from, to uintptr }

// visit visits v and all that stands in it.
func visit(v reflect.Value, each func(reflect.Value)) {
	each(v)
	switch v.Kind() {
	case reflect.Slice:
		for i := range v.Len() {
			visit(v.Index(i), each)
		}
	case reflect.Struct:
		for i := range v.NumField() {
			visit(v.Field(i), each)
		}
	}
}
