package scope_test

import (
	"slices"
	"strconv"
	"strings"
	"testing"

	"scriptorium/api"
	"scriptorium/scope"
)

func TestOuter(t *testing.T) {
	for _, x := range []struct{ block, want string }{
		{"", ""}, {"return", ""}, {"return 1", ""}, {"return 'x'", ""}, {"return {x = 1, ['y'] = 2}", ""}, {"return a.x.y", "a"},
		{"return x", "x"}, {"x = 1", "x"}, {"x.y = 1", "x"}, {"x()", "x"}, {"x(y, z)", "x y z"}, {"x = y", "x y"}, {"x[y] = z", "x y z"}, {"return {x, y, x, y, x}", "x y"}, {"return {z, x, [y] = w}", "z x y w"},
		{"return a", "a"}, {"return {a, A}", "a A"}, {"return {ab, a, b}", "ab a b"}, {"return {x, X, x1, _x, _}", "x X x1 _x _"},
		{"local x", ""}, {"local x return x", ""}, {"local x = y return x", "y"}, {"local x = x", "x"}, {"local x = x return x", "x"}, {"x = 1 local x = 2 x = 3", "x"}, {"local x = y local y = x", "y"},
		{"do local x end", ""}, {"do local x end return x", "x"}, {"local x do local x x() end x()", ""}, {"do local x x() end do x = y end", "x y"}, {"do do local x end end x()", "x"},
		{"local function f() end", ""}, {"local function f() return f end return f", ""}, {"f() local function f() end", "f"}, {"do local function f() end end f()", "f"}, {"local f = function() return f end", "f"}, {"local function f(x) return {x, y} end return x", "y x"}, {"local function f() g() end local function g() f() end", "g"},
		{"return function() return x end", "x"}, {"local x return function() return {x, y} end", "y"}, {"return {function(x) return x end, x}", "x"}, {"return {x, function(x) return x end}", "x"}, {"return {function() local x return x end, x}", "x"}, {"return function() return function() return {x, y, x} end end", "x y"}, {"return {function() x = 1 end, function() y = 2 end, x}", "x y"},
		{"for i = 1, 2 do i = i end", ""}, {"for i = i, 2 do end", "i"}, {"for i = 1, i do end", "i"}, {"for i = 1, 2, i do end", "i"}, {"for i = x, y, z do w(i) end i()", "x y z w i"}, {"for k, v in {k} do end", "k"}, {"for k, v in v do k = v end", "v"}, {"for k, v in {} do k(v) end k(v)", "k v"}, {"for k, k in {} do k() end", ""},
		{"while x do local x x() end", "x"}, {"while true do local x x() end y()", "y"}, {"repeat local x until x", ""}, {"repeat local x until x x()", "x"}, {"repeat until x", "x"}, {"repeat x() until y", "x y"}, {"repeat do local x end until x", "x"}, {"repeat local x until function() return {x, y} end", "y"},
		{"if x then y() elseif z then w() else v() end", "x y z w v"}, {"if v then w() elseif z then y() end x()", "v w z y x"}, {"if true then local x x() elseif x then end", "x"}, {"if true then local x elseif true then local y x() else y() end", "x y"},
		{"return type(x)", "x"}, {"type = 1", ""}, {"local type type = call", ""}, {"do local type end type = type", ""}, {"return function() type = x end", "x"},
		{"return KEYS", "KEYS"}, {"ARGV = KEYS[1]", "ARGV KEYS"}, {"local KEYS = ARGV return KEYS", "ARGV"}, {"return {KEYS, ARGV, KEYS}", "KEYS ARGV"},
		{"break x()", "x"}, {"while function() break end do x() end", "x"}, {"local x = y break z()", "y z"},
	} {
		wantOuter(t, "function() "+x.block+" end", x.want)
		wantOuter(t, "function(p, q) "+x.block+" end", x.want)
		wantOuter(t, "function() p() do "+x.block+" end q() end", strings.TrimSpace(strings.ReplaceAll("p "+x.want+" q", "  ", " ")))
		wantOuter(t, "function() return function() "+x.block+" end end", x.want)
		wantOuter(t, "function(x) "+x.block+" end", without(x.want, "x"))
	}
}

// without takes one name away.
func without(names, name string) string {
	return strings.Join(slices.DeleteFunc(strings.Fields(names), func(s string) bool { return s == name }), " ")
}

func TestOuterParameters(t *testing.T) {
	for _, x := range []struct{ function, want string }{
		{"function(x) return x end", ""}, {"function(x) return y end", "y"}, {"function(x, y) return {x, y, z} end", "z"}, {"function(x) x = 1 end", ""}, {"function(x) local x = x end", ""}, {"function(x, x) return x end", ""},
		{"function(x) do local x end return x end", ""}, {"function(x) return function(y) return {x, y, z} end end", "z"}, {"function(x) return function() x = y end end", "y"}, {"function(x) return {function(y) return x end, y} end", "y"},
		{"function(KEYS) return {KEYS, ARGV} end", "ARGV"}, {"function(type) return {type, error} end", ""}, {"function(type) type = x end", "x"}, {"function(x) return function(x) return x end end", ""}, {"function(x) for x = x, x do x() end x() end", ""},
		{"function(x, y) y = x end", ""}, {"function(y, x) y = x z = y end", "z"}, {"function(X) x() end", "x"},
	} {
		wantOuter(t, x.function, x.want)
	}
}

// The limits of names and the loops of breaks are not Outer's.
func TestOuterOfWrong(t *testing.T) {
	many := strings.Repeat("local a ", 200)
	wantOuter(t, "function() "+many+" return {a, b} end", "b")
	wantOuter(t, "function() break do break end "+many+" for i = b, c do break end break return d end", "b c d")
	wantOuter(t, "function() "+many+" local function a() return a end for a, b in a do b() end b() end", "b")
}

// Many names keep their order, and each is there once.
func TestOuterOfMany(t *testing.T) {
	var block strings.Builder
	var want []string
	for i := range 700 {
		name := "n" + strconv.Itoa(i*577%700)
		want = append(want, name)
		block.WriteString(name + "=" + want[i/2] + " ")
	}
	wantOuter(t, "function() "+block.String()+" end", strings.Join(want, " "))
	wantOuter(t, "function("+strings.Join(want[:16], ",")+") "+block.String()+" end", strings.Join(want[16:], " "))
}

// What Outer returns belongs to the caller.
func TestOuterIsNew(t *testing.T) {
	f := api.Func{Params: []string{"p"}, Body: parsed(t, "local x = y return {p, z, w, v}")}
	one := scope.Outer(f)
	other := scope.Outer(f)
	for i := range one {
		one[i] = "!"
	}
	one = append(one[:2], "?")
	if want := "y z w v"; strings.Join(other, " ") != want || strings.Join(scope.Outer(f), " ") != want || f.Params[0] != "p" {
		t.Errorf("17.3: Outer is %q, then %q, with %q", other, scope.Outer(f), one)
	}
}
