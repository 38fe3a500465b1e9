package parse_test

import (
	"fmt"
	"strings"
	"testing"

	"scriptorium/api"
	"scriptorium/parse"
	"scriptorium/tree"
)

func wantTree(t *testing.T, source, want string) {
	t.Helper()
	l, err, at := parse.Script(source)
	if got := show(l); err != api.OK || at != 0 || got != want {
		t.Errorf("16.1: Script(%.300q) is %d, %d,\n%s, want\n%s", source, err, at, got, want)
	}
}

func wantError(t *testing.T, source string, err, at int) {
	t.Helper()
	l, gotErr, gotAt := parse.Script(source)
	if len(l) != 0 || gotErr != err || gotAt != at {
		t.Errorf("16.2: Script(%.300q) is %d statements, %d, %d, want none, %d, %d", source, len(l), gotErr, gotAt, err, at)
	}
}

func wantRight(t *testing.T, source string) []api.Stat {
	t.Helper()
	l, err, at := parse.Script(source)
	if err != api.OK || at != 0 {
		t.Fatalf("16.2: Script(%.300q) is %d, %d", source, err, at)
	}
	return l
}

func TestExamples(t *testing.T) {
	wantTree(t, "return 1 + 2 * 3", "return@0(binary@9/1(int@7#1 binary@13/3(int@11#2 int@15#3)))")
	wantError(t, "x", api.ErrSource, 1)
}

func TestStatements(t *testing.T) {
	for _, x := range []struct{ source, want string }{
		{"", ""},
		{" -- nothing", ""},
		{"local x", "local@0:x"},
		{"local x = 1", "local@0:x(int@10#1)"},
		{"local x; local y", "local@0:x local@9:y"},
		{"local x local y = z;", "local@0:x local@8:y(name@18\"z\")"},
		{"local function f() end", "localfunc@0:f(func@16<:>)"},
		{"local function f (a, b) return a end", "localfunc@0:f(func@17<a,b:return@24(name@31\"a\")>)"},
		{"local f = function() end", "local@0:f(func@10<:>)"},
		{"x = 1", "set@0(name@0\"x\" int@4#1)"},
		{" x = 1 ; y = 2", "set@1(name@1\"x\" int@5#1) set@9(name@9\"y\" int@13#2)"},
		{"x.y = 1", "set@0(index@1(name@0\"x\" string@2\"y\") int@6#1)"},
		{"x [y] . z = 1", "set@0(index@6(index@2(name@0\"x\" name@3\"y\") string@8\"z\") int@12#1)"},
		{"f().x = 1", "set@0(index@3(call@1(name@0\"f\") string@4\"x\") int@8#1)"},
		{"f()", "call@0(call@1(name@0\"f\"))"},
		{"f(1, x)", "call@0(call@1(name@0\"f\" int@2#1 name@5\"x\"))"},
		{"a.b[c]()", "call@0(call@6(index@3(index@1(name@0\"a\" string@2\"b\") name@4\"c\")))"},
		{"f() g()", "call@0(call@1(name@0\"f\")) call@4(call@5(name@4\"g\"))"},
		{"f() (g)()", "call@0(call@7(call@4(call@1(name@0\"f\") name@5\"g\")))"},
		{"if a then end", "if@0(name@3\"a\"){}"},
		{"if a then f() else g() end", "if@0(name@3\"a\"){call@10(call@11(name@10\"f\"))}{call@19(call@20(name@19\"g\"))}"},
		{"if a then else end", "if@0(name@3\"a\"){}{}"},
		{"if a then elseif b then break elseif c then else return end", "if@0(name@3\"a\" name@17\"b\" name@37\"c\"){}{break@24}{}{return@49}"},
		{"while a do f() end", "while@0(name@6\"a\"){call@11(call@12(name@11\"f\"))}"},
		{"while a do end", "while@0(name@6\"a\"){}"},
		{"repeat until a", "repeat@0(name@13\"a\"){}"},
		{"repeat break until a", "repeat@0(name@19\"a\"){break@7}"},
		{"repeat return until a", "repeat@0(name@20\"a\"){return@7}"},
		{"for i = 1, 2 do end", "for@0:i(int@8#1 int@11#2){}"},
		{"for i = 1, 2, 3 do break end", "for@0:i(int@8#1 int@11#2 int@14#3){break@19}"},
		{"for k, v in t do f() end", "each@0:k,v(name@12\"t\"){call@17(call@18(name@17\"f\"))}"},
		{"for k, k in t do end", "each@0:k,k(name@12\"t\"){}"},
		{"break", "break@0"},
		{"break; break", "break@0 break@7"},
		{"do end", "do@0{}"},
		{"do do end f() end", "do@0{do@3{} call@10(call@11(name@10\"f\"))}"},
		{"return", "return@0"},
		{"return;", "return@0"},
		{"return x", "return@0(name@7\"x\")"},
		{"return x;", "return@0(name@7\"x\")"},
		{"f() return", "call@0(call@1(name@0\"f\")) return@4"},
		{"do return end return x", "do@0{return@3} return@14(name@21\"x\")"},
		{"do return; end", "do@0{return@3}"},
		{"f();x=1;do end;local a;break;return;", "call@0(call@1(name@0\"f\")) set@4(name@4\"x\" int@6#1) do@8{} local@15:a break@23 return@29"},
	} {
		wantTree(t, x.source, x.want)
	}
}

func TestExpressions(t *testing.T) {
	for _, x := range []struct{ source, want string }{
		{"nil", "nil@2"},
		{"true", "true@2"},
		{"false", "false@2"},
		{"0", "int@2"},
		{"9223372036854775807", "int@2#9223372036854775807"},
		{`"a\n'"`, `string@2"a\n'"`},
		{"''", "string@2"},
		{"'end'", `string@2"end"`},
		{"x", `name@2"x"`},
		{"function() end", "func@2<:>"},
		{"function ( a ,b) f() return a end", `func@2<a,b:call@19(call@20(name@19"f")) return@23(name@30"a")>`},
		{"(x)", `name@3"x"`},
		{"((  1 ))", "int@6#1"},
		{"(1 + 2)", "binary@5/1(int@3#1 int@7#2)"},
		{"x.y", `index@3(name@2"x" string@4"y")`},
		{"x . y", `index@4(name@2"x" string@6"y")`},
		{"x['y']", `index@3(name@2"x" string@4"y")`},
		{"x[1][(2)]", `index@6(index@3(name@2"x" int@4#1) int@8#2)`},
		{"f()", `call@3(name@2"f")`},
		{"f()()", `call@5(call@3(name@2"f"))`},
		{"f(1, (2), g(3)).x", `index@17(call@3(name@2"f" int@4#1 int@8#2 call@13(name@12"g" int@14#3)) string@18"x")`},
		{"(f)(x)", `call@5(name@3"f" name@6"x")`},
		{"('a').b", `index@7(string@3"a" string@8"b")`},
		{"({})[1]", `index@6(table@3 int@7#1)`},
		{"(function() end)()", "call@18(func@3<:>)"},
		{"not x", `not@2(name@6"x")`},
		{"- x", `minus@2(name@4"x")`},
		{"#x", `len@2(name@3"x")`},
		{"not - # not x", `not@2(minus@6(len@8(not@10(name@14"x"))))`},
		{"-x.y", `minus@2(index@4(name@3"x" string@5"y"))`},
		{"#f(1)", `len@2(call@4(name@3"f" int@5#1))`},
		{"-(x)", `minus@2(name@4"x")`},
		{"-1", "minus@2(int@3#1)"},
	} {
		wantTree(t, "x="+x.source, `set@0(name@0"x" `+x.want+")")
	}
}

// Each operator, with its number or kind.
func TestOperators(t *testing.T) {
	for _, x := range []struct{ sign, want string }{
		{"+", "binary@9/1"}, {"-", "binary@9/2"}, {"*", "binary@9/3"}, {"//", "binary@9/4"}, {"%", "binary@9/5"}, {"..", "binary@9/6"},
		{"==", "binary@9/7"}, {"~=", "binary@9/8"}, {"<", "binary@9/9"}, {"<=", "binary@9/10"}, {">", "binary@9/11"}, {">=", "binary@9/12"},
		{"and", "and@9"}, {"or", "or@9"},
	} {
		source := "return a " + x.sign + " b"
		wantTree(t, source, fmt.Sprintf(`return@0(%s(name@7"a" name@%d"b"))`, x.want, len(source)-1))
	}
}

// bound are the binary operators, those that bind alike together, from those that bind
// least on.
func bound() [][]string {
	return [][]string{{"or"}, {"and"}, {"==", "~=", "<", "<=", ">", ">="}, {".."}, {"+", "-"}, {"*", "//", "%"}}
}

// Of two operators the one that binds more takes the part between them; of two that
// bind alike the first one, but the second one of two "..".
func TestPrecedence(t *testing.T) {
	for i, alike := range bound() {
		for _, first := range alike {
			for j, others := range bound() {
				for _, second := range others {
					source := "return a " + first + " b " + second + " c"
					want := "return (a " + first + " b) " + second + " c"
					if j > i || i == j && first == ".." {
						want = "return a " + first + " (b " + second + " c)"
					}
					wantAlike(t, source, want)
				}
			}
			for _, sign := range []string{"not ", "-", "#"} {
				wantAlike(t, "return "+sign+"a "+first+" b", "return ("+sign+"a) "+first+" b")
				wantAlike(t, "return a "+first+" "+sign+"b", "return a "+first+" ("+sign+"b)")
			}
		}
	}
}

// wantAlike asks for the same trees, but for places.
func wantAlike(t *testing.T, a, b string) {
	t.Helper()
	x, y := show(tree.Bare(wantRight(t, a))), show(tree.Bare(wantRight(t, b)))
	if x != y {
		t.Errorf("16.1: %q is %s, and %q is %s", a, x, b, y)
	}
}

func TestChains(t *testing.T) {
	wantTree(t, "return a - b - c + d", `return@0(binary@17/1(binary@13/2(binary@9/2(name@7"a" name@11"b") name@15"c") name@19"d"))`)
	wantTree(t, "return a .. b .. c .. d", `return@0(binary@9/6(name@7"a" binary@14/6(name@12"b" binary@19/6(name@17"c" name@22"d"))))`)
	wantTree(t, "return a < b == c", `return@0(binary@13/7(binary@9/9(name@7"a" name@11"b") name@16"c"))`)
	wantTree(t, "return a and b and c", `return@0(and@15(and@9(name@7"a" name@13"b") name@19"c"))`)
	wantTree(t, "return a or b or c", `return@0(or@14(or@9(name@7"a" name@12"b") name@17"c"))`)
	wantTree(t, "return a .. b + c .. d == e", `return@0(binary@23/7(binary@9/6(name@7"a" binary@18/6(binary@14/1(name@12"b" name@16"c") name@21"d")) name@26"e"))`)
}

func TestTables(t *testing.T) {
	for _, x := range []struct{ source, want string }{
		{"{}", "table@2"},
		{"{ 1 }", "table@2(int@4#1/1 int@4#1)"},
		{"{5,6;7}", "table@2(int@3#1/1 int@3#5 int@5#2/1 int@5#6 int@7#3/1 int@7#7)"},
		{"{5,}", "table@2(int@3#1/1 int@3#5)"},
		{"{5;}", "table@2(int@3#1/1 int@3#5)"},
		{"{x}", `table@2(int@3#1/1 name@3"x")`},
		{"{x=5}", `table@2(string@3"x"/1 int@5#5)`},
		{"{x = y,}", `table@2(string@3"x"/1 name@7"y")`},
		{"{['x']=5}", `table@2(string@4"x" int@9#5)`},
		{"{[1]=5}", `table@2(int@4#1 int@7#5)`},
		{"{[ x ] = 5;}", `table@2(name@5"x" int@11#5)`},
		{"{[a+b]=5}", `table@2(binary@5/1(name@4"a" name@6"b") int@9#5)`},
		{"{x==5}", `table@2(int@3#1/1 binary@4/7(name@3"x" int@6#5))`},
		{"{x.y}", `table@2(int@3#1/1 index@4(name@3"x" string@5"y"))`},
		{"{x==y,y=x}", `table@2(int@3#1/1 binary@4/7(name@3"x" name@6"y") string@8"y"/1 name@10"x")`},
		{"{(x)}", `table@2(int@3#1/1 name@4"x")`},
		{"{(x)+1}", `table@2(int@3#1/1 binary@6/1(name@4"x" int@7#1))`},
		{"{-x}", `table@2(int@3#1/1 minus@3(name@4"x"))`},
		{"{5,x=6,7,[8]=9;10}", `table@2(int@3#1/1 int@3#5 string@5"x"/1 int@7#6 int@9#2/1 int@9#7 int@12#8 int@15#9 int@17#3/1 int@17#10)`},
		{"{{5},6,{7,8}}", `table@2(int@3#1/1 table@3(int@4#1/1 int@4#5) int@7#2/1 int@7#6 int@9#3/1 table@9(int@10#1/1 int@10#7 int@12#2/1 int@12#8))`},
		{"{function() end}", `table@2(int@3#1/1 func@3<:>)`},
		{"{x=5,x=6}", `table@2(string@3"x"/1 int@5#5 string@7"x"/1 int@9#6)`},
		{"{'x'}", `table@2(int@3#1/1 string@3"x")`},
	} {
		wantTree(t, "x="+x.source, `set@0(name@0"x" `+x.want+")")
	}
}

// The errors of Lex come first, wherever they are.
func TestErrorsOfLex(t *testing.T) {
	wantError(t, "end x = $", api.ErrSource, 8)
	wantError(t, "x x x 1a", api.ErrSource, 6)
	wantError(t, ") 'a", api.ErrSource, 2)
	wantError(t, "$", api.ErrSource, 0)
	wantError(t, "f(1) f:g()", api.ErrSource, 6)
	wantError(t, "x = 1 / 2", api.ErrSource, 6)
	wantError(t, strings.Repeat("(", 102)+"~", api.ErrSource, 102)
	wantError(t, strings.Repeat("(", api.MaxSource+1), api.ErrLimit, 0)
	wantError(t, strings.Repeat(" ", api.MaxSource+1), api.ErrLimit, 0)
	wantTree(t, strings.Repeat(" ", api.MaxSource), "")
	wantTree(t, strings.Repeat(" ", api.MaxSource-5)+"break", "break@16379")
}

func TestWrong(t *testing.T) {
	for _, x := range []struct {
		source string
		at     int
	}{
		{";", 0}, {"f();;", 4}, {"; f()", 0}, {"return;;", 7}, {"do ; end", 3},
		{"end", 0}, {"else", 0}, {"elseif", 0}, {"until", 0}, {"f() end", 4}, {"return end", 7}, {"return x until", 9},
		{"return 1 x = 2", 9}, {"return x = 2", 9}, {"return; f()", 8}, {"return return", 7}, {"return 1, 2", 8}, {"return )", 7}, {"return break", 7},
		{"1", 0}, {"'x'", 0}, {"(f)()", 0}, {"(x).y = 1", 0}, {"{}", 0}, {"nil", 0}, {"not x", 0}, {"-x", 0}, {"function f() end", 0}, {"then", 0}, {"in", 0}, {"and", 0},
		{"x", 1}, {"x.y", 3}, {"x[1]", 4}, {"x y", 2}, {"x.y z()", 4}, {"x 1", 2}, {"x;", 1}, {"x == 1", 2}, {"x + 1", 2}, {"x, y = 1, 2", 1}, {"x 'y'", 2}, {"x {}", 2},
		{"x =", 3}, {"x = ;", 4}, {"x = )", 4}, {"x = = 1", 4}, {"x = 1, 2", 5}, {"f() = 1", 4}, {"f().x", 5}, {"f().x()=1", 7},
		{"x.1", 2}, {"x.'y' = 1", 2}, {"x.end = 1", 2}, {"x. = 1", 3}, {"x..y = 1", 1}, {"x[] = 1", 2}, {"x[1 = 1", 4}, {"x[1, 2] = 1", 3}, {"x[1) = 1", 3},
		{"f(", 2}, {"f(1", 3}, {"f(1,", 4}, {"f(1,)", 4}, {"f(,)", 2}, {"f(,1)", 2}, {"f(1 2)", 4}, {"f(1;2)", 3}, {"f(1]", 3}, {"f(a=1)", 3},
		{"local", 5}, {"local 1", 6}, {"local x,", 7}, {"local x, y = 1, 2", 7}, {"local x =", 9}, {"local x = 1, 2", 11}, {"local end", 6}, {"local x.y = 1", 7}, {"local 'x'", 6}, {"local x 1", 8}, {"local x()", 7},
		{"local function", 14}, {"local function()", 14}, {"local function f", 16}, {"local function f x", 17}, {"local function f.g() end", 16}, {"local function f() ", 19}, {"local function f() until", 19}, {"local function f() else", 19},
		{"x = function f() end", 13}, {"x = function", 12}, {"x = function(", 13}, {"x = function(1) end", 13}, {"x = function(a b) end", 15}, {"x = function(a,) end", 15}, {"x = function(,a) end", 13}, {"x = function(a;b) end", 14}, {"x = function(a", 14}, {"x = function(a,", 15}, {"x = function(a) end end", 20}, {"x = function('a') end", 13}, {"x = function(end) end", 13}, {"x = function(..) end", 13},
		{"if", 2}, {"if then", 3}, {"if x", 4}, {"if x do", 5}, {"if x then", 9}, {"if x then until", 10}, {"if x then else", 14}, {"if x then else elseif y then end", 15}, {"if x then else else end", 15}, {"if x then elseif then end", 17}, {"if x then elseif y end", 19}, {"if x then elseif y do end", 19}, {"if x then end end", 14}, {"if x then elseif y then", 23}, {"if x = 1 then end", 5},
		{"while", 5}, {"while do end", 6}, {"while x then end", 8}, {"while x do", 10}, {"while x do until", 11}, {"while x do else end", 11}, {"while x end", 8},
		{"repeat", 6}, {"repeat end", 7}, {"repeat until", 12}, {"repeat until;", 12}, {"repeat else", 7}, {"repeat elseif", 7}, {"repeat until x end", 15}, {"repeat until x until y", 15},
		{"for", 3}, {"for 1", 4}, {"for i", 5}, {"for i do", 6}, {"for i =", 7}, {"for i = 1", 9}, {"for i = 1 do end", 10}, {"for i = 1,", 10}, {"for i = 1, do end", 11}, {"for i = 1, 2", 12}, {"for i = 1, 2, do end", 14}, {"for i = 1, 2, 3, 4 do end", 15}, {"for i = 1, 2 then", 13}, {"for i = 1, 2 do", 15}, {"for i = 1, 2 do until", 16}, {"for i in t do end", 6}, {"for i == 1, 2 do end", 6}, {"for i.j = 1, 2 do end", 5},
		{"for a,", 6}, {"for a, 1", 7}, {"for a, b", 8}, {"for a, b, c in t do end", 8}, {"for a, b = 1, 2 do end", 9}, {"for a, b in", 11}, {"for a, b in do end", 12}, {"for a, b in x, y do end", 13}, {"for a, b in t", 13}, {"for a, b in t do", 16}, {"for a, b in t then", 14}, {"for a, in t do end", 7}, {"for in t do end", 4},
		{"break x", 7}, {"break 1", 6}, {"break = 1", 6}, {"break()", 5},
		{"do", 2}, {"do else end", 3}, {"do until", 3}, {"do end end", 7}, {"do end = 1", 7},
		{"x = nil.y", 7}, {"x = 'a'.b", 7}, {"x = 'a'(b)", 7}, {"x = {}.y", 6}, {"x = {}[1]", 6}, {"x = {}()", 6}, {"x = 1.y", 5}, {"x = 1(2)", 5}, {"x = 1[2]", 5}, {"x = true()", 8}, {"x = function() end()", 18}, {"x = function() end.y", 18}, {"x = nil nil", 8}, {"x = 1 2", 6}, {"x = y 2", 6}, {"x = y 'z'", 6}, {"x = y {}", 6}, {"x = (y) 2", 8}, {"x = y z", 7},
		{"x = (", 5}, {"x = ()", 5}, {"x = (1", 6}, {"x = (1]", 6}, {"x = (1, 2)", 6}, {"x = (1))", 7}, {"x = (y = 1)", 7},
		{"x = not", 7}, {"x = -", 5}, {"x = #", 5}, {"x = not)", 7}, {"x = 1 not 2", 6}, {"x = 1 # 2", 6}, {"x = + 1", 4}, {"x = * 1", 4}, {"x = .. 1", 4}, {"x = and 1", 4}, {"x = or", 4},
		{"x = 1 +", 7}, {"x = 1 + * 2", 8}, {"x = 1 + + 2", 8}, {"x = 1 .. .. 2", 9}, {"x = 1 and or 2", 10}, {"x = 1 == == 2", 9}, {"x = 1 < > 2", 8}, {"x = 1 .. )", 9},
		{"x = {", 5}, {"x = {,}", 5}, {"x = {;}", 5}, {"x = {1", 6}, {"x = {1 2}", 7}, {"x = {1,", 7}, {"x = {1,,}", 7}, {"x = {1,;}", 7}, {"x = {1;,}", 7}, {"x = {1)", 6}, {"x = {x=}", 7}, {"x = {x=", 7}, {"x = {x=1 y=2}", 9}, {"x = {[1]}", 8}, {"x = {[1]=}", 9}, {"x = {[1 = 2}", 8}, {"x = {[]=1}", 6}, {"x = {[", 6}, {"x = {x.y=1}", 8}, {"x = {'x'=1}", 8}, {"x = {1=2}", 6}, {"x = {(x)=2}", 8}, {"x = {x=y=z}", 8}, {"x = {nil=1}", 8}, {"x = {end=1}", 5}, {"x = {[1][2]=3}", 8}, {"x = {}}", 6}, {"x = {return}", 5},
	} {
		wantError(t, x.source, api.ErrSource, x.at)
	}
}
