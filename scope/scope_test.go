package scope_test

import (
	"strings"
	"testing"

	"scriptorium/api"
	"scriptorium/lex"
	"scriptorium/parse"
	"scriptorium/scope"
)

// parsed returns the block of a right source.
func parsed(t testing.TB, source string) []api.Stat {
	t.Helper()
	l, err, at := parse.Script(source)
	if err != api.OK {
		t.Fatalf("Script(%.300q) is %d, %d", source, err, at)
	}
	return l
}

// wantCheck asks for this error at the place of the @ in a source, or for none where there
// is no @.
func wantCheck(t *testing.T, source string, want int) {
	t.Helper()
	wantAt := strings.Index(source, "@")
	if wantAt < 0 {
		want, wantAt = api.OK, 0
	}
	source = strings.Replace(source, "@", "", 1)
	if err, at := scope.Check(parsed(t, source)); err != want || at != wantAt {
		t.Errorf("17.2: Check of %.1000q is %d, %d, want %d, %d", source, err, at, want, wantAt)
	}
}

func wantSource(t *testing.T, sources ...string) {
	t.Helper()
	for _, s := range sources {
		wantCheck(t, s, api.ErrSource)
	}
}

// outerOf returns Outer of the function that a source is, or begins with.
func outerOf(t *testing.T, source string) string {
	t.Helper()
	l := parsed(t, "return "+source)
	return strings.Join(scope.Outer(l[0].L[0].F[0]), " ")
}

func wantOuter(t *testing.T, source, want string) {
	t.Helper()
	if got := outerOf(t, source); got != want {
		t.Errorf("17.3: Outer of %.1000q is %q, want %q", source, got, want)
	}
}

func builtins() []string {
	return strings.Fields("type error pcall create resume yield status tostring toint sub byte char rep upper lower reverse find insert remove keys join call")
}

func TestExamples(t *testing.T) {
	if !scope.Builtin("pcall") || scope.Builtin("KEYS") {
		t.Error("17.1: Builtin of pcall and of KEYS")
	}
	if err, at := scope.Check(parsed(t, "return x")); err != api.ErrSource || at != 7 {
		t.Errorf("17.2: Check of return x is %d, %d", err, at)
	}
	wantOuter(t, "function(p) local x = y + p x = type(z) for i = x, w do y = i end return function() return p + q end end", "y z w q")
}

func TestBuiltin(t *testing.T) {
	if len(builtins()) != 22 {
		t.Fatalf("there are %d built-in functions", len(builtins()))
	}
	is := map[string]bool{}
	for _, name := range builtins() {
		is[name] = true
	}
	for _, name := range builtins() {
		if !scope.Builtin(name) {
			t.Errorf("17.1: %s is no built-in function", name)
		}
		for _, other := range near(name) {
			if scope.Builtin(other) != is[other] {
				t.Errorf("17.1: Builtin(%q) is %v", other, !is[other])
			}
		}
	}
	for _, name := range strings.Fields("KEYS ARGV keyS argv print pairs ipairs next assert select unpack tonumber toString string table math len format gsub concat sort wrap running redis server self _G and break do else elseif end false for function if in local nil not or repeat return then true until while x _ 1") {
		if scope.Builtin(name) {
			t.Errorf("17.1: %s is a built-in function", name)
		}
	}
}

// near returns names that are almost this one.
func near(name string) []string {
	l := []string{"", name + name, " " + name, name + " ", name + "\n", name + "\x00", name + "()", strings.ToUpper(name), strings.ToUpper(name[:1]) + name[1:], "_" + name, name + "_", name + "s", name + "1"}
	for i := range len(name) {
		l = append(l, name[:i]+name[i+1:], name[:i], name[i+1:])
		for b := range 256 {
			l = append(l, name[:i]+string([]byte{byte(b)})+name[i+1:])
		}
	}
	return l
}

// Without names that are used there is nothing wrong.
func TestCheckOfLittle(t *testing.T) {
	wantSource(t,
		"", "return", "return 1", "local x", "local x = 1", "do end", "local function f() end", "local x local x",
		"while true do end", "repeat until true", "for i = 1, 2 do end", "for k, v in {} do end", "if 1 then elseif 2 then else end",
		"return {x = 1, ['y'] = 2, 3}", "return ({}).x", "return 'x'", "return -1 + #'x'",
	)
	if err, at := scope.Check(nil); err != api.OK || at != 0 {
		t.Errorf("17.2: Check of nothing is %d, %d", err, at)
	}
}

func TestVisibleLocals(t *testing.T) {
	wantSource(t,
		"local x return x", "local x x = 1", "local x = 1 x = x + x", "local x x()", "local x local y = x",
		"local x = @x", "local x = {@x}", "local x = -@x", "local x = function() return @x end", "local x = function() @x = 1 end",
		"local x local x = x return x", "local x local y = @z",
		"@x = 1 local x", "@x() local x", "return {@x, y}", "local x return @X", "local x return @x1", "local x1 return @x", "local _ return _",
		"do local x end return @x", "do local x x = 1 end", "local x do return x end", "local x do local x end return x", "local x do local x = x end return x",
		"do local x end do local x = @x end", "do do local x end @x = 1 end", "do local x do x = 1 end x = 2 end @x = 3",
		"do local x local x end @x()", "do local x do local x end x() end @x()", "local x do local x do local x end end x()",
		"local x local y do local y local x end x = y", "do local x end local x = @y",
	)
}

func TestVisibleFunctions(t *testing.T) {
	wantSource(t,
		"local function f() end f()", "local function f() f() end", "local function f() return function() return f end end", "local function f() f = 1 end",
		"local function f() @g() end local function g() end", "local g local function f() g() end g = function() end",
		"@f() local function f() end", "do local function f() end f() end @f()", "local f = function() return @f end",
		"local function f(a, b) return a + b end", "local function f(a) end return @a", "local function f(a) return @b end", "local function f() return @a end local a",
		"local function f(f) f() end f()", "local function f(a) local a = a return a end", "local function f(a, a) return a end", "local function f(a, b) return function(c) return {a, b, c} end end",
		"local function f(a) return function() a = 1 end end",
		"local x = function(a) return a end", "local x = function(a) end return @a", "local x = function(a) local y = function(b) end return @b end", "local x = {function(a) end, @a}", "local x = {function(a) return a end, function(b) return @a end}",
		"local x = function() local y end return @y", "local x = function() local y return y end", "local y local x = function() y = y return y end",
		"return (function(a) return a end)(@a)", "return type(function(a) return a end, @a)",
	)
}

func TestVisibleInLoops(t *testing.T) {
	wantSource(t,
		"for i = 1, 2 do local x = i end", "for i = 1, 2 do i = 3 end", "for i = 1, 2 do for j = i, i do local x = i + j end end",
		"for i = @i, 2 do end", "for i = 1, @i do end", "for i = 1, 2, @i do end", "for i = 1, 2 do end return @i", "for i = 1, 2 do end @i = 1", "local i for i = i, i, i do end return i",
		"for i = 1, 2 do local x end return @x", "for i = 1, 2 do @j = 1 end", "for i = 1, 2 do local function f() return i end end",
		"for k, v in KEYS do k = v v = k end", "for k, v in @k do end", "for k, v in @v do end", "for k, v in {} do end return @k", "for k, v in {} do end return @v", "for k, v in {} do @w() end", "local k local v for k, v in {k, v} do end return {k, v}",
		"for k, k in {} do k() end", "for k, k in {} do end @k()", "for k, v in {} do local k = k local v = v end", "for k, v in {} do return function() return {k, v} end end",
		"while true do local x x = 1 end", "while @x do local x end", "while true do local x end return @x", "local x while x do local x end x()",
		"repeat local x until x", "repeat local x = @x until x", "repeat until @x", "repeat do local x end until @x", "repeat local x until x return @x", "repeat local x until function() return x end", "repeat local function f() end until f()",
		"repeat if true then local x end until @x", "repeat local x do local x end until x", "repeat local x local y until x and y and @z", "repeat repeat local x until x until @x", "repeat local x repeat until x until x", "repeat @x() local x until x",
		"repeat local x for x = 1, 2 do end until x @x()", "local x repeat local x until x x()",
	)
}

func TestVisibleInCases(t *testing.T) {
	wantSource(t,
		"local x if x then x() elseif x then x() else x() end",
		"if @x then end", "if true then @x() end", "if true then elseif @x then end", "if true then elseif true then @x() end", "if true then else @x() end", "if true then elseif true then else @x() end",
		"if true then local x elseif @x then end", "if true then local x else @x() end", "if true then local x end @x()", "if true then elseif true then local x else @x() end", "if true then else local x end @x()", "if true then elseif true then local x end @x()",
		"if true then local x x() elseif true then local y y() else local z z() end",
		"if @x then y() elseif z then end", "if true then @y() elseif x then z() end", "if true then elseif @x then z() else y() end", "if 1 then elseif 2 then elseif 3 then @x() elseif y then end", "if 1 then elseif 2 then elseif @x then y() elseif z then end",
	)
}

// Names are found wherever an expression may stand.
func TestEverywhere(t *testing.T) {
	for _, exp := range []string{
		"?", "(?)", "-?", "not ?", "#?", "? + 1", "1 + ?", "1 - ? * 2", "1 .. ?", "? == 1", "1 < ?", "? and 1", "1 and ?", "? or 1", "1 or ?", "?.x", "?.x.y", "?[1]", "KEYS[?]", "KEYS[1][?]",
		"?()", "?(1)", "type(?)", "type(1, ?)", "type(1, 2, ?)", "type(?)(1)", "type(1)(?)", "{?}", "{1, ?}", "{x = ?}", "{[?] = 1}", "{[1] = ?}", "{1, [2] = 3, x = ?, 4}",
		"function() return ? end", "function() ?() end", "function() ? = 1 end", "function(a) return function(b) return ? end end", "function() local a = ? end", "function() for a = 1, ? do end end",
	} {
		for _, stat := range []string{
			"return ?", "local a = ?", "KEYS = ?", "KEYS.x = ?", "KEYS[?] = 1", "KEYS[1][?] = 1", "type(?)", "KEYS[?]()", "type(1).x[?] = 1",
			"if ? then end", "if 1 then elseif ? then end", "while ? do end", "repeat until ?", "for a = ?, 1 do end", "for a = 1, ? do end", "for a = 1, 2, ? do end", "for a, b in ? do end",
			"local function a() return ? end", "do return ? end", "while 1 do return ? end", "repeat type(?) until 1", "for a = 1, 2 do return ? end", "for a, b in 1 do return ? end", "if 1 then return ? end", "if 1 then else return ? end", "if 1 then elseif 2 then return ? end",
		} {
			source := strings.Replace(stat, "?", exp, 1)
			wantSource(t, strings.Replace(source, "?", "@x", 1), "local x "+strings.Replace(source, "?", "x", 1), "local x "+strings.Replace(source, "?", "@y", 1))
			wantOuter(t, "function() "+strings.Replace(source, "?", "x", 1)+" end", outerWith(source, "x"))
		}
	}
}

// outerWith returns the names that come from around a source with a name in place of ?;
// the only other one in it is KEYS.
func outerWith(source, name string) string {
	keys := strings.Index(source, "KEYS")
	switch {
	case keys < 0:
		return name
	case keys < strings.Index(source, "?"):
		return "KEYS " + name
	}
	return name + " KEYS"
}

func TestKeysAndArguments(t *testing.T) {
	for _, name := range []string{"KEYS", "ARGV"} {
		for _, source := range []string{
			"return ?", "return ?[1]", "? = 1", "?[1] = 2", "?()", "local ? = ? return ?", "do local ? end return ?", "local x = function() return function() return ? end end", "local function ?() ? = 1 end ?()",
			"return function(?) return ? end", "for i = 1, 2 do ? = i end", "for k, v in ? do end", "for ?, v in ? do ? = 1 end return ?", "for ? = ?, ? do end", "repeat local ? until ?", "local function f() ? = ? end",
		} {
			wantSource(t, strings.ReplaceAll(source, "?", name))
		}
	}
	wantSource(t, "return @KEY", "return @keys1", "@argv = 1", "return {KEYS, ARGV, @Argv}")
}

func TestBuiltinsEverywhere(t *testing.T) {
	for _, name := range builtins() {
		for _, source := range []string{
			"return ?", "?()", "?(?)", "?.x = 1", "?[1] = ?", "local x = ?", "local ? = ?", "local x x = ?", "return function() return ? end", "for i = ?, ? do ?() end", "do local ? end ?()",
			"@? = 1", "local x @? = x", "do @? = 1 end", "@? = ?", "local x = function() @? = 1 end", "local function f() @? = 1 end", "local x x = 1 @? = x return y",
			"local ? ? = 1", "local ? = 1 ? = 2", "local ? = function() @? = 1 end", "local ? do ? = 1 end", "do local ? end @? = 1", "local ? do local ? end ? = 1", "@? = 1 local ?",
			"local function ?() ? = 1 end ? = 2", "local function f(?) ? = 1 end", "local function f(?) end @? = 1", "return function(?) return function() ? = 1 end end", "return {function(?) end, function() @? = 1 end}",
			"for ? = 1, 2 do ? = 3 end", "for ? = 1, 2 do end @? = 3", "for ?, v in {} do ? = 3 end", "for k, ? in {} do ? = 3 end", "for ?, v in {} do end @? = 3", "for k, v in function() @? = 1 end do end",
			"repeat local ? until function() ? = 1 end", "repeat until function() @? = 1 end", "repeat local ? until ? @? = 1", "while true do local ? ? = 1 end", "while true do @? = 1 end", "if true then local ? else @? = 1 end", "if true then @? = 1 end",
		} {
			wantSource(t, strings.ReplaceAll(source, "?", name))
		}
	}
}

func TestBreak(t *testing.T) {
	wantSource(t,
		"@break", "do @break end", "if true then @break end", "if true then else @break end", "local x @break", "@break break", "do do if 1 then @break end end end",
		"while true do break end", "repeat break until true", "for i = 1, 2 do break end", "for k, v in {} do break end",
		"while true do break break end", "while true do do break end end", "while true do if true then break elseif true then break else break end end", "while true do repeat break until true break end", "for i = 1, 2 do for k, v in {} do break end break end",
		"while true do end @break", "repeat until true @break", "for i = 1, 2 do end @break", "for k, v in {} do end @break", "while true do break end @break", "repeat repeat until 1 break until 1 @break",
		"local function f() @break end", "return function() @break end", "return function() while true do break end end", "local function f() while true do end @break end",
		"while true do local function f() @break end end", "repeat local f = function() @break end until true", "for i = 1, 2 do type(function() @break end) end", "for k, v in {} do return function() do @break end end end",
		"while true do local function f() while true do break end end break end", "while true do local function f() while true do break end @break end end", "while true do local function f() end break end", "while true do return function() return function() @break end end end",
		"while function() @break end do end", "repeat until function() @break end", "for i = function() @break end, 2 do end", "for k, v in function() @break end do end", "if function() @break end then end",
		"while true do while function() @break end do end end", "repeat break until function() @break end", "repeat repeat until function() @break end until true", "while function() while 1 do break end end do break end",
		"while true do local function f() for i = 1, 2 do break end end repeat break until 1 break end @break",
	)
}

// The first error is the one that comes first in the text, of whatever sort it is.
func TestOrder(t *testing.T) {
	wantSource(t,
		"return @x + y", "return {@x, y}", "return {[@x] = y}", "return {1, @x, z = y}", "return @x[y]", "return @f(x)", "return type(@x, y)", "return type(@x)(y)", "return @x and y", "return @x .. y .. z", "@x = y", "@x[y] = z", "KEYS[@y] = z",
		"@x() y()", "@x() break", "@break x()", "@break type = 1", "@type = 1 break", "@type = x", "type(@x) type = 1", "local a = @x local b = y", "local a = function() @x() end y()", "return {function() return @x end, y}",
		"while @x do y() end", "while @x do break end break", "repeat @x() until y", "repeat local a until @y z()", "for i = @x, y, z do w() end", "for i = 1, @y, z do end", "for i = 1, 2, @z do w() end", "for k, v in @x do y() end", "for i = 1, 2 do @x() end y()",
		"if @x then break else y() end", "if 1 then @break elseif x then end", "if 1 then @x() else y() end", "do @x() end y()", "local function f() @x() end y()", "local function f(a) a() @x() end break",
	)
}

// TestNames makes sure that the tests above use names.
func TestNames(t *testing.T) {
	for _, name := range append(builtins(), "KEYS", "ARGV") {
		if !lex.Name(name) {
			t.Errorf("%s is no name", name)
		}
	}
}
