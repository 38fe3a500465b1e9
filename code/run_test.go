package code_test

import (
	"slices"
	"strings"
	"testing"

	"scriptorium/api"
	"scriptorium/code"
	"scriptorium/instr"
	"scriptorium/tree"
)

// wantSameRun asks for 18.3: what is compiled is executed as the tree says. Whatever ends
// it, both do the same up to there, step by step.
func wantSameRun(t *testing.T, l []api.Stat, most int) (executed, *machine) {
	t.Helper()
	m := newMachine(wantRight(t, l))
	keys, args := []string{"k1", "k2"}, []string{"1"}
	got := execute(m.script(), keys, args, most)
	want := execute(walkedScript(l), keys, args, most)
	if got.how != want.how || got.result != want.result || !slices.Equal(got.log, want.log) {
		i := 0
		for i < min(len(got.log), len(want.log)) && got.log[i] == want.log[i] {
			i++
		}
		t.Fatalf("18.3: %.3000s\nis %s with %s after %d entries, want %s with %s after %d; the first %d are the same, then %q, want %q", tree.Text(l),
			got.how, got.result, len(got.log), want.how, want.result, len(want.log), i, got.log[i:min(i+3, len(got.log))], want.log[i:min(i+3, len(want.log))])
	}
	return got, m
}

// wantRun asks for how a script ends, its result, how many steps and cells it takes, and
// for its calls of the host.
func wantRun(t *testing.T, source, how, result string, steps, cells int, calls string) {
	t.Helper()
	e, _ := wantSameRun(t, parsed(t, source), 100000)
	if e.how != how || e.result != result {
		t.Errorf("18.3: %q is %s with %s, want %s with %s", source, e.how, e.result, how, result)
	}
	if gotSteps, gotCells := e.count(aStep), e.count(aCell); gotSteps != steps || gotCells != cells {
		t.Errorf("18.3: %q takes %d steps and %d cells, want %d and %d", source, gotSteps, gotCells, steps, cells)
	}
	if e.calls() != calls {
		t.Errorf("18.3: %q calls %q, want %q", source, e.calls(), calls)
	}
}

// wantResult asks for the result of a script that ends well.
func wantResult(t *testing.T, source, result string) {
	t.Helper()
	e, _ := wantSameRun(t, parsed(t, source), 100000)
	if e.how != "done" || e.result != result {
		t.Errorf("18.3: %q is %s with %s, want %s", source, e.how, e.result, result)
	}
}

// wantCalls asks for the calls of the host, in their order.
func wantCalls(t *testing.T, source, calls string) {
	t.Helper()
	e, _ := wantSameRun(t, parsed(t, source), 100000)
	if e.calls() != calls {
		t.Errorf("18.3: %q calls %q, want %q", source, e.calls(), calls)
	}
}

// Steps and cells, counted by hand.
func TestSteps(t *testing.T) {
	for _, x := range []struct {
		source, result string
		steps, cells   int
	}{
		{"", "nil", 0, 0}, {"return", "nil", 1, 0}, {"return nil", "nil", 2, 0}, {"return 1 + 2", "3", 4, 0}, {"return KEYS[1]", `"k1"`, 4, 0}, {"return ARGV", `{1="1"}`, 2, 0}, {"return 'a'", `"a"`, 2, 0}, {"return not true", "false", 3, 0}, {"return -(-5)", "5", 4, 0}, {"return #'abc'", "3", 3, 0}, {"return type", "function", 2, 0}, {"return type == type", "true", 4, 0},
		{"local x return x", "nil", 3, 0}, {"local x = 5 x = x + 1 return x", "6", 8, 0}, {"local x = 1 local x = x return x", "1", 6, 0}, {"KEYS = 5 return KEYS", "5", 4, 0},
		{"local t = {} t.a = 1 return t.a", "1", 10, 2}, {"return {}", "{}", 2, 1}, {"return {1, x = 2, [3] = 4, ['y'] = nil}", `{1=1 "x"=2 3=4}`, 8, 4}, {"return {[1 + 1] = 5}", "{2=5}", 6, 2}, {"return {1, [1] = 2}", "{1=2}", 5, 2},
		{"do end do do end end return 1", "1", 5, 0}, {"if nil then return 1 elseif false then return 2 else return 3 end", "3", 5, 0}, {"if 0 then end return 1", "1", 4, 0}, {"if nil then end return 1", "1", 4, 0}, {"if nil then elseif 1 then local x end", "nil", 4, 0},
		{"local i = 0 while i < 2 do i = i + 1 end return i", "2", 24, 0}, {"while nil do end", "nil", 2, 0}, {"while true do break end", "nil", 4, 0},
		{"local i = 0 repeat local j = i i = i + 1 until j == 1 return i", "2", 25, 0}, {"repeat until 1", "nil", 3, 0}, {"repeat break until nil", "nil", 3, 0}, {"repeat return until nil", "nil", 3, 0},
		{"local s = 0 for i = 1, 3 do s = s + i end return s", "6", 22, 0}, {"local s = 0 for i = 10, 1, -4 do s = s + i end return s", "18", 24, 0}, {"for i = 2, 1 do local x = i end", "nil", 3, 0}, {"for i = 1, 3 do end", "nil", 6, 0}, {"for i = 1, 3, 2 do end", "nil", 6, 0}, {"for i = 1, 3 do break end", "nil", 5, 0},
		{"for i = 9223372036854775806, 9223372036854775807 do end", "nil", 5, 0}, {"for i = -9223372036854775807, -9223372036854775807 - 1, -1 do end", "nil", 11, 0},
		{"for k, v in {5, x = 6} do end", "nil", 6, 3}, {"for k, v in {} do end", "nil", 2, 1}, {"for k, v in KEYS do KEYS[2] = nil end", "nil", 7, 0}, {"for k, v in KEYS do KEYS[k] = nil KEYS.x = 1 end return KEYS", `{"x"=1}`, 22, 1},
		{"return function() end", "function", 2, 1}, {"local function f() end return f", "function", 4, 1}, {"local f = function() return 1 end return f()", "1", 7, 1}, {"local function f() return f end return f() == f", "true", 9, 1}, {"return (function(a, b) return b end)(1)", "nil", 6, 1}, {"return (function() end)(1, 2)", "nil", 5, 1},
		{"return nil and 1", "nil", 3, 0}, {"return false or 2", "2", 4, 0}, {"return 1 and 2", "2", 4, 0}, {"return 1 or 2", "1", 3, 0}, {"return (nil or false) and 1 or 'x'", `"x"`, 7, 0},
		{"return 'a' .. 1 .. '2345678901234567'", `"a12345678901234567"`, 6, 4}, {"return type(1)", `"int"`, 4, 0}, {"type(1)", "nil", 4, 0}, {"return pcall(error, 1)", `{"ok"=false "value"=1}`, 5, 3}, {"return pcall(function() end)", `{"ok"=true}`, 4, 3},
	} {
		wantRun(t, x.source, "done", x.result, x.steps, x.cells, "")
	}
}

// Errors come where chapter 21 puts them, and nothing comes behind them.
func TestFailures(t *testing.T) {
	for _, x := range []struct {
		source, result string
		steps          int
		calls          string
	}{
		{"error('x') call('y')", `"x"`, 4, ""}, {"error()", "nil", 3, ""}, {"error({1})", "{1=1}", 5, ""},
		{"local x x()", `"E1"`, 4, ""}, {"local x x(call('a'))", `"E1"`, 7, "a"}, {"return (1)(2)", `"E1"`, 4, ""},
		{"return (nil).x", `"E2"`, 4, ""}, {"return (nil)[call('a')]", `"E2"`, 6, "a"}, {"local t t.x = call('a')", `"E2"`, 7, "a"}, {"for k, v in 1 do end", `"E2"`, 2, ""}, {"for k, v in nil do end call('a')", `"E2"`, 2, ""}, {"local t t[nil] = 1", `"E2"`, 5, ""},
		{"return 1 + nil", `"E3"`, 4, ""}, {"return '1' * 2", `"E3"`, 4, ""}, {"return nil .. 'a'", `"E3"`, 4, ""}, {"return -'a'", `"E3"`, 3, ""}, {"return #1", `"E3"`, 3, ""}, {"return nil + call('a')", `"E3"`, 6, "a"}, {"for i = 1, 'x' do end", `"E3"`, 3, ""}, {"for i = nil, call('a') do end", `"E3"`, 5, "a"}, {"for i = 1, 2, nil do end", `"E3"`, 4, ""}, {"for i = nil, 2, 0 do end", `"E3"`, 4, ""},
		{"return 9223372036854775807 + 1", `"E4"`, 4, ""}, {"return 1 // 0", `"E4"`, 4, ""}, {"return 1 % 0", `"E4"`, 4, ""}, {"for i = 1, 2, 0 do end", `"E4"`, 4, ""}, {"for i = 2, 1, 0 do end", `"E4"`, 4, ""}, {"return -(-9223372036854775807 - 1)", `"E4"`, 6, ""},
		{"return 1 < 'a'", `"E5"`, 4, ""}, {"return nil >= nil", `"E5"`, 4, ""}, {"return {} <= {}", `"E5"`, 4, ""},
		{"local t = {} t[nil] = 1", `"E6"`, 6, ""}, {"local t = {} t[{}] = call('a')", `"E6"`, 8, "a"}, {"return {[nil] = call('a'), call('b')}", `"E6"`, 6, "a"}, {"return {[type] = nil}", `"E6"`, 4, ""},
		{"local function f() return f() end return f()", `"E7"`, 2 + 3 + 3*99, ""}, {"insert(1)", `"E9"`, 4, ""},
	} {
		m := newMachine(wantRight(t, parsed(t, x.source)))
		e := execute(m.script(), nil, nil, 100000)
		wantRun(t, x.source, "failed", x.result, x.steps, e.count(aCell), x.calls)
	}
}

// What stands first is done first.
func TestOrder(t *testing.T) {
	for _, x := range []struct{ source, calls string }{
		{"call(call('a'), call('b'))", "a, b, -3 -2"}, {"return call('a') + call('b') * call('c')", "a, b, c"}, {"return (call('a') - call('b')) == call('c')", "a, b, c"}, {"return call('a') .. call('b') .. call('c')", "a, b, c"},
		{"local t = {} t[call('a')] = call('b')", "a, b"}, {"local t = {[-3] = {}} t[call('a')][call('b')] = call('c')", "a, b, c"}, {"return {[call('a')] = call('b'), call('c'), x = call('d')}", "a, b, c, d"}, {"local t = {} return t[call('a')] == call('b')", "a, b"},
		{"for i = call('a'), call('b') do call(i) end", "a, b, -3, -2"}, {"for i = call('a') + 3, call('b') * -1, call('c') * -1 do call(i) end", "a, b, c, 0, 1, 2"}, {"if call('a') == call('b') then call('c') else call('d') end", "a, b, d"}, {"if call('a') == 0 then elseif call('b') == -2 then call('c') elseif call('d') then end", "a, b, c"},
		{"return call('a') and call('b')", "a, b"}, {"return call('a') or call('b')", "a"}, {"return not call('a') and call('b') or call('c')", "a, c"}, {"local x = nil return x and call('a')", ""}, {"local x = 1 return x or call('a')", ""},
		{"while call('a') ~= -1 do call('b') end", "a, b, a"}, {"repeat call('a') until call('b') ~= -2", "a, b, a, b"}, {"for i = 1, 3 do for j = 1, 3 do if j == 2 then break end call(i, j) end if i == 2 then break end end", "1 1, 2 1"},
		{"for k, v in {5, x = 6} do call(k, v) end", "1 5, x 6"}, {"local t = {1, 2, 3} for k, v in t do call(k, v) t[k + 1] = nil t.x = 1 end", "1 1, 3 3"}, {"local t = {1, 2} for k, v in t do call(k, v) t[2] = v + 5 end", "1 1, 2 6"}, {"local t = {1} for k, v in t do t = {2} call(v) end", "1"},
		{"for i = 9223372036854775806, 9223372036854775807 do call(i) end", "9223372036854775806, 9223372036854775807"}, {"for i = 1, 3 do call(i) i = 7 end", "1, 2, 3"}, {"local n = 2 for i = 1, n do n = 5 call(i) end", "1, 2"}, {"for i = 3, 1, -1 do call(i) end", "3, 2, 1"},
		{"local x = 1 do local x = 2 call(x) end call(x)", "2, 1"}, {"for x = 1, 1 do local x = 5 call(x) end", "5"}, {"for x, x in {7} do call(x) end", "7"}, {"local i = 9 for i = 1, 1 do call(i) end call(i)", "1, 9"}, {"local function f(x) call(x) return f end f(1)(2)", "1, 2"},
		{"local r = pcall(function() call('a') error('x') call('b') end) call(r.value)", "a, x"}, {"pcall(call, 'a', 1) call('b')", "a 1, b"}, {"for i = 1, 7 do pcall(call, i) end call('x')", "1, 2, 3, 4, 5, 6, 7, x"}, {"local function f() call('a') return 1 end return f() + f()", "a, a"},
		{"do call('a') return end", "a"}, {"for i = 1, 3 do call(i) return end", "1"}, {"while true do while true do break end call('a') break end", "a"}, {"repeat if true then call('a') break end call('b') until true call('c')", "a, c"}, {"for k, v in KEYS do if k == 2 then break end call(v) end", "k1"},
	} {
		wantCalls(t, x.source, x.calls)
	}
}

// Functions share the names around them; each time a block is executed, its names are new.
func TestNames(t *testing.T) {
	for _, x := range []struct{ source, result string }{
		{"local n = 0 local function up() n = n + 1 return n end up() up() return n", "2"}, {"local x = 1 local y = x local f = function() x = 5 end f() return {x, y}", "{1=5 2=1}"}, {"local x = 1 local f = function() x = x * 2 return x end return x + f() + x", "5"}, {"local x = 1 local f = function() x = x * 2 return x end return {x, f(), x, f(), x}", "{1=1 2=2 3=2 4=4 5=4}"}, {"local x = 1 local f = function() return x end x = 2 return f()", "2"}, {"local x local f = function() return x end x = 2 return f()", "2"},
		{"local l = {} for i = 1, 3 do l[i] = function() i = i + 10 return i end end return {l[1](), l[1](), l[2]()}", "{1=11 2=21 3=12}"}, {"local l = {} for k, v in {7, 8} do l[k] = function() k = k + v return k end end return {l[1](), l[2](), l[1]()}", "{1=8 2=10 3=15}"}, {"local l = {} local i = 0 while i < 2 do i = i + 1 local j = i l[i] = function() j = j + 1 return j end end return {l[1](), l[1](), l[2]()}", "{1=2 2=3 3=3}"}, {"local l = {} repeat local j = #l insert(l, function() j = j + 1 return j end) until j == 1 return {l[1](), l[1](), l[2]()}", "{1=1 2=2 3=2}"}, {"local f repeat local x = 1 f = function() return x end until f() == 1 and x == 1 return f()", "1"},
		{"local l = {} for i = 1, 2 do local x l[i] = function(v) local old = x x = v return old end end l[1](5) return {l[1](6), l[2](7) == nil, l[2]()}", "{1=5 2=true 3=7}"}, {"local l = {} for i = 1, 2 do do local x = i l[i] = function() return x end x = x + 5 end end return {l[1](), l[2]()}", "{1=6 2=7}"}, {"local f for i = 1, 3 do local x = i if i == 2 then f = function() return x end break end end return f()", "2"},
		{"local function make() local n = 0 return function() n = n + 1 return n end end local a = make() local b = make() a() a() return a() * 10 + b()", "31"}, {"local function pair(v) return {get = function() return v end, set = function(w) v = w end} end local a = pair(1) local b = pair(2) a.set(5) return {a.get(), b.get()}", "{1=5 2=2}"}, {"return (function(a, b) local f = function() a = a + 1 return a + b end return f() + f() end)(1, 10)", "25"},
		{"local x = 1 local f = function() return function() x = x + 1 return x end end f()() return f()()", "3"}, {"local x = 1 local f = function() local g = function() x = x + 1 end g() return x end return {f(), f(), x}", "{1=2 2=3 3=3}"}, {"local a = 1 return (function() local b = 2 return (function() local c = 3 return (function() a = a + b b = b + c c = c + a return {a, b, c} end)() end)() end)()", "{1=3 2=5 3=6}"}, {"local a = 1 local b = 2 return (function() return (function() return b - a end)() + a end)()", "2"},
		{"local function f() return f end local g = f f = 5 return g()", "5"}, {"local f = 1 local function f() return f end return f() == f", "true"}, {"local function f(n) if n == 0 then return 1 end return n * f(n - 1) end return f(10)", "3628800"}, {"local odd local function even(n) return n == 0 or odd(n - 1) end odd = function(n) return n ~= 0 and even(n - 1) end return {even(10), even(7)}", "{1=true 2=false}"}, {"local function f() f = 1 end f() return f", "1"},
		{"local type = 1 return (function() return type end)()", "1"}, {"local type = 1 return (function() type = type + 1 return (function() return type end)() end)()", "2"}, {"return type(type)", `"function"`}, {"local function type() return 5 end return type()", "5"}, {"do local type = 1 end return type(1)", `"int"`}, {"return (function(type) return type end)(5)", "5"}, {"KEYS = 5 return (function() ARGV = KEYS return KEYS end)() + ARGV", "10"}, {"return (function() return {KEYS[2], ARGV[1]} end)()", `{1="k2" 2="1"}`},
		{"return (function(a, a) return a end)(1, 2)", "2"}, {"return (function(a, a) return (function() return a end)() end)(1, 2)", "2"}, {"return (function(a, b, c) return {c, b, a} end)(1, 2)", "{2=2 3=1}"}, {"return (function(a) a = a + 1 return a end)(1, 2)", "2"}, {"local x = 1 local f = function(x) x = x + 1 return x end return {f(5), x}", "{1=6 2=1}"}, {"local x = 1 local x = function() return x end return x()", "1"},
		{"local x = 1 local r = pcall(function() x = 2 error('e') end) return {x, r.ok, r.value}", `{1=2 2=false 3="e"}`}, {"local x = {} x = {x, x} return {x[1] == x[2], #x}", "{1=true 2=2}"}, {"local x = 1 x = {x, {x}} return x", "{1=1 2={1=1}}"}, {"local x = 2 x = x and x + 1 return x", "3"}, {"local x = nil x = x or {x} return x", "{}"}, {"local f = function(x) return x end f = f(f(f)) return f(3)", "3"},
		{"local a = 1 do local b = 2 do local c = 3 a = a + b + c end local d = 4 a = a + d end local e = 5 return a + e", "15"}, {"local a = 1 if a then local b = 2 a = b end local c = 3 return {a, c}", "{1=2 2=3}"}, {"for i = 1, 2 do local a = i end local b return b", "nil"}, {"local r = 0 for i = 1, 3 do local a a = (a or 0) + i r = r + a end return r", "6"},
		{"local a = 1 return {a, 'a', #'a', a .. 'a', a == 'a', KEYS['KEYS'], a = 'a', ['a'] = a}", `{1=1 2="a" 3=1 4="1a" 5=false "a"=1}`}, {"return (function(a) while true do break end for i = 1, 2 do break end repeat break until a if a then else a = 1 end return a end)()", "1"},
		{"local t = {f = function(x) return {g = x} end} return t.f(7).g", "7"}, {"local t = {{{5}}} t[1][1][1] = t[1][1][1] + 1 return t[1][1][1]", "6"}, {"local t = {1, 2, 3} return #t + #'ab' - -1", "6"}, {"return 2 - 3 - 4 .. '|' .. 7 // 2 % 2 * 5", `"-5|5"`}, {"return {1 < 2, 2 <= 1, 2 > 1, 1 >= 2, 1 == 1, 1 ~= 1, 'a' < 'b', not nil}", "{1=true 2=false 3=true 4=false 5=true 6=false 7=true 8=true}"}, {"return {-7 // 2, -7 % 2, 7 // -2, 7 % -2}", "{1=-4 2=1 3=-4 4=-1}"},
	} {
		wantResult(t, x.source, x.result)
	}
}

// Scripts are stopped anywhere: the same has been done by then.
func TestStoppedAnywhere(t *testing.T) {
	for _, s := range []string{
		"local s = 0 for i = 1, 3 do for k, v in {i, x = i} do if v == 2 then s = s .. call(k) elseif not s then break else s = {s, n = v} end end end return s",
		"local n = 0 local function f(a) n = n + 1 if a > 0 then return f(a - 1) end return {n, pcall(f, nil)} end repeat local r = f(3) while r do r = nil end until r == nil return f",
	} {
		l := parsed(t, s)
		for most := range 400 {
			wantSameRun(t, l, most)
		}
	}
}

// Scripts of all kinds are executed as the tree says.
func TestRandomRuns(t *testing.T) {
	c := newChance()
	how, done := map[string]int{}, map[int]int{}
	for range 6000 {
		e, m := wantSameRun(t, grown(c, 10+c.below(150)), 2000)
		how[e.how]++
		for op, n := range m.done {
			done[op] += n
		}
	}
	if how["done"] < 1000 || how["failed"] < 1000 || how["stopped"] < 100 {
		t.Errorf("the scripts are of few kinds: %v", how)
	}
	for op := instr.Step; op <= instr.Return; op++ {
		if done[op] < 300 {
			t.Errorf("instruction %d was executed %d times", op, done[op])
		}
	}
}

// Names of built-in functions are their values, unless a name hides them.
func TestBuiltins(t *testing.T) {
	for _, s := range strings.Fields("type error pcall create resume yield status tostring toint sub byte char rep upper lower reverse find insert remove keys join call") {
		p, err, _ := code.Source("return " + s)
		if err != api.OK || !slices.Contains(p.Constants, instr.Constant{Kind: api.CellFunc, S: s}) {
			t.Errorf("18.3: there is no %s in %v", s, p)
		}
		p, err, _ = code.Source("local " + s + " return function(x) return " + s + " end")
		if err != api.OK || slices.ContainsFunc(p.Constants, func(c instr.Constant) bool { return c.Kind == api.CellFunc }) {
			t.Errorf("18.3: there is a built-in function in %v", p)
		}
	}
}
