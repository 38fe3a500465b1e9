package scope_test

import (
	"fmt"
	"strings"
	"testing"

	"scriptorium/api"
	"scriptorium/parse"
	"scriptorium/scope"
)

// locals declares n names, all different or all the same.
func locals(n int, same bool) string {
	var b strings.Builder
	for i := range n {
		if same {
			i = 0
		}
		fmt.Fprintf(&b, "local l%d ", i)
	}
	return b.String()
}

// wantLimit asks for no error where there is room for the names that a source declares,
// and for ErrLimit at its @ where there is room for one name less. There are so many of
// them at its @, and ? stands for those that are there already.
func wantLimit(t *testing.T, source string, names int) {
	t.Helper()
	for _, same := range []bool{false, true} {
		fits := locals(150-names, same)
		isTooMuch := locals(151-names, same)
		wantCheck(t, strings.NewReplacer("@", "", "?", fits).Replace(source), api.OK)
		wantCheck(t, strings.Replace(source, "?", isTooMuch, 1), api.ErrLimit)
	}
}

// In a script there are KEYS and ARGV already.
func TestLimitOfScript(t *testing.T) {
	for _, x := range []struct {
		source string
		names  int
	}{
		{"? @local x", 1}, {"? @local l1", 1}, {"? @local KEYS", 1}, {"? @local x = 1", 1}, {"? local x @local y", 2}, {"? local x local x @local x", 3}, {"?; @local x", 1}, {"?\n\n  @local x", 1},
		{"? @local function f() end", 1}, {"? local function f() end @local x", 2}, {"? @local function l1() return l1 end", 1},
		{"? @for i = 1, 2 do end", 1}, {"? for i = 1, 2 do @local x end", 2}, {"? for i = 1, 2 do @for j = 1, 2 do end end", 2}, {"? for i = 1, 2 do end for i = 1, 2 do local x @local y end", 3},
		{"? @for k, v in {} do end", 2}, {"? for k, v in {} do @local x end", 3}, {"? @for k, k in {} do end", 2}, {"? for k, v in {} do end for k, v in {} do for i = 1, 2 do @for k, v in {} do end end end", 5}, {"? local x @for k, v in {} do end", 3},
		{"? do @local x end", 1}, {"? while true do @local x end", 1}, {"? repeat @local x until x", 1}, {"? if true then @local x end", 1}, {"? if true then else @local x end", 1}, {"? if true then elseif true then @local x end", 1},
		{"do ? @local x end", 1}, {"while true do ? @local x end", 1}, {"repeat ? @local x until x", 1}, {"if true then ? @local x end", 1}, {"if true then elseif true then ? @local x else end", 1}, {"if true then else ? @local x end", 1},
		{"for i = 1, 2 do ? @local x end", 2}, {"for k, v in {} do ? @local x end", 3}, {"for k, v in {} do ? @for k, v in {} do end end", 4}, {"local x ? @local y", 2}, {"local function f() end ? @local y", 2}, {"local x do local y ? do local z @local w end end", 4},
	} {
		wantLimit(t, x.source, x.names+2)
	}
}

// A function has the names of its parameters and of its block.
func TestLimitOfFunction(t *testing.T) {
	for _, x := range []struct {
		source string
		names  int
	}{
		{"function() ? @local x end", 1}, {"function(a) ? @local x end", 2}, {"function(a, b, c) ? @local x end", 4}, {"function(a, a, a) ? @local a end", 4}, {"function(a, b, c, d, e, f, g, h, i, j, k, l, m, n, o, p) ? @local x end", 17}, {"function(l1, KEYS) ? @local x end", 3},
		{"function() ? @local function f() end end", 1}, {"function() ? @for i = 1, 2 do end end", 1}, {"function() ? @for k, v in {} do end end", 2}, {"function(a) ? do do @local x end end end", 2}, {"function(a) for k, v in {} do repeat ? @local x until x end end", 4}, {"function(a) do local x ? while true do @local y end end end", 3},
	} {
		wantLimit(t, "return "+x.source, x.names)
		wantLimit(t, locals(146, false)+" local x = 1 return {1, "+x.source+"}", x.names)
		wantLimit(t, "return function(a) local b return "+x.source+" end", x.names)
		wantLimit(t, "local f local g = "+x.source, x.names)
		wantLimit(t, "local function f"+strings.TrimPrefix(x.source, "function"), x.names)
		wantLimit(t, "for i = 1, 2 do type("+x.source+") end", x.names)
		wantLimit(t, "repeat local x until "+x.source, x.names)
	}
}

// The names of one function do not count for another one, whether it is around the other
// one, in it, or beside it.
func TestLimitOfManyFunctions(t *testing.T) {
	full := locals(150, false)
	wantSource(t,
		locals(147, true)+"local function f() "+full+" return function() "+full+" end end",
		locals(147, true)+"local f = function() "+full+" end f()",
		"local f = {function() "+full+" end, function() "+full+" end} "+locals(147, true),
		"for i = 1, 2 do local f = function() "+full+" end end "+locals(148, true),
		"return function() local f = function() "+full+" end "+locals(149, true)+" end",
		"return function(a, b) local function f() "+full+" end "+locals(147, true)+" end",
		"return function(a, b) do local x local y local function f(c, d, e) "+locals(147, true)+" end end "+locals(148, true)+" end",
	)
	for _, s := range []string{
		locals(147, true) + "local function f() end @local x",
		locals(147, true) + "local f = function() " + full + " end @local x",
		"local f = {function() " + full + " end} " + locals(147, true) + "@local x",
		"return function() local f = function() " + full + " end " + locals(149, true) + "@local x end",
		"return function(a, b) local function f() " + full + " end " + locals(147, true) + "@local x end",
		"return function(a, b) do local function f(c) " + locals(149, true) + "@local x end end end",
		"local function f(a) " + locals(149, true) + " return function(b) " + locals(149, true) + "@local x end end",
	} {
		wantCheck(t, s, api.ErrLimit)
	}
}

// What is no longer visible does not count.
func TestLimitOfGone(t *testing.T) {
	for _, gone := range []string{
		"do local x end", "do do local x end local y end", "for i = 1, 2 do local x end", "for k, v in {} do local x end", "while true do local x end", "repeat local x until x", "if true then local x elseif true then local y else local z end",
		"type(function(a, b) local c end)", "for i = 1, 2 do local x break end", "do local function f(a, b, c) local d end end", "do local x end do local y end",
	} {
		wantLimit(t, strings.Repeat(gone+" ", 160)+"? @local x", 3)
		wantLimit(t, "? "+strings.Repeat(gone+" ", 160)+"local x local y local z local w @local v", 7)
	}
	wantLimit(t, "do "+locals(148, false)+"end "+"do "+locals(148, false)+"end ? @local x", 3)
	wantLimit(t, "repeat "+locals(148, false)+"until l147 ? @local x", 3)
	wantLimit(t, "if true then "+locals(148, false)+"else "+locals(148, false)+"end ? @local x", 3)
}

// The limit is asked for where a statement begins, ahead of all that stands in it.
func TestLimitAndOrder(t *testing.T) {
	for _, s := range []string{
		"@local x = y", "@local x = x", "@local x = function() break end", "@local x = function() " + locals(151, true) + " end", "@local x break y()", "@local function f() x() end", "@local function f() break end", "@local function f() " + locals(151, true) + "end",
		"@for i = x, 1 do end", "@for i = 1, x do break end", "@for i = 1, 2, x do end break", "@for i = 1, 2 do x() end", "@for i = 1, 2 do type = i end", "@for i = 1, 2 do local x local y end", "@for k, v in x do end", "@for k, v in {} do x() end", "@for k, v in {} do local x end",
		"do @local x end y()", "if true then @local x elseif y then end", "while true do @local x = y end", "@local x local y", "repeat @local x until y", "@local x type = 1",
	} {
		wantCheck(t, locals(148, true)+s, api.ErrLimit)
	}
	full := locals(148, true)
	wantSource(t,
		full+"@x() local y", full+"@break local y", full+"@type = 1 local y", full+"if @x then local y end", full+"while @x do local y end", full+"@x = function() "+locals(151, true)+" end", full+"return {@x, function() "+locals(151, true)+" end}",
		locals(147, true)+"local x = @x local y", locals(147, true)+"for i = @i, 1 do local x end", locals(147, true)+"local function f() @break end local y",
		"@x() "+locals(151, true), locals(147, true)+"for i = 1, 2 do end local x @x1 = 1 local y",
	)
}

// Parameters are no statements: more of them than a parse allows count for the names that
// follow, but are no error by themselves.
func TestLimitOfParameters(t *testing.T) {
	for _, n := range []int{16, 149, 150, 151, 1000} {
		body := parsed(t, "return l1")
		f := api.Func{Params: strings.Fields(strings.ReplaceAll(locals(n, false), "local", "")), Body: body}
		l := []api.Stat{{Kind: api.StatReturn, L: []api.Exp{{Kind: api.ExpFunc, At: 1, F: []api.Func{f}}}}}
		if err, at := scope.Check(l); err != api.OK || at != 0 {
			t.Errorf("17.2: Check with %d parameters is %d, %d", n, err, at)
		}
		more := parsed(t, "      local x return l1")
		l[0].L[0].F[0].Body = more
		want, wantAt := api.OK, 0
		if n >= 150 {
			want, wantAt = api.ErrLimit, 6
		}
		if err, at := scope.Check(l); err != want || at != wantAt {
			t.Errorf("17.2: Check with %d parameters and a name is %d, %d, want %d, %d", n, err, at, want, wantAt)
		}
	}
}

// The longest sources are within the limits of a parse.
func TestLimitOfLongSources(t *testing.T) {
	for _, same := range []bool{false, true} {
		l, err, at := parse.Script(locals(1300, same))
		if err != api.OK {
			t.Fatalf("Script is %d, %d", err, at)
		}
		if err, at := scope.Check(l); err != api.ErrLimit || at != len(locals(148, same)) {
			t.Errorf("17.2: Check of 1300 names is %d, %d", err, at)
		}
	}
}
