package tree_test

import (
	"fmt"
	"reflect"
	"slices"
	"strings"
	"testing"

	"scriptorium/api"
	"scriptorium/lex"
	"scriptorium/tree"
)

// tokensOf are the tokens of a source without places.
func tokensOf(t *testing.T, s string) []api.Token {
	t.Helper()
	l, err, at := lex.Lex(s)
	if err != api.OK {
		t.Fatalf("15.2: the text %.300q: %d at %d", s, err, at)
	}
	for i := range l {
		l[i].At = 0
	}
	return l
}

// wantText holds the Text of a source against another source, apart from blanks.
func wantText(t *testing.T, source, want string) {
	t.Helper()
	got := tree.Text(parsed(t, source))
	if !slices.Equal(tokensOf(t, got), tokensOf(t, want)) {
		t.Fatalf("15.2: Text of %.300q is %.300q, want %.300q", source, got, want)
	}
	wantRoundTrip(t, parsed(t, source))
}

// wantRoundTrip asks for 15.3, and for what 15.2 says of lines and parentheses.
func wantRoundTrip(t *testing.T, l []api.Stat) {
	t.Helper()
	before := copyOf(l)
	text := tree.Text(l)
	if !reflect.DeepEqual(l, before) {
		t.Fatalf("15.2: Text(%s) changes its argument", show(before))
	}
	if again := tree.Text(tree.Bare(l)); again != text {
		t.Fatalf("15.2: Text(%s) is %.300q, and without places %.300q", show(l), text, again)
	}
	back, wrong := model(text, false)
	if wrong != "" || !tree.Same(tree.Bare(back), tree.Bare(l)) {
		t.Fatalf("15.3: Text(%s) is %.300q: %s, %s", show(l), text, wrong, show(back))
	}
	wantLines(t, text, back)
	parens, _ := model(text, true)
	if want := withParens(l); !tree.Same(parens, want) {
		t.Fatalf("15.2: the parentheses in %.300q: %s, want %s", text, show(parens), show(want))
	}
}

// wantLines asks for a line for each statement, on which it begins.
func wantLines(t *testing.T, text string, l []api.Stat) {
	t.Helper()
	lines := map[int]bool{}
	visit(&l, func(v reflect.Value) {
		s, ok := v.Interface().(api.Stat)
		if !ok {
			return
		}
		line := strings.LastIndex(text[:s.At], "\n") + 1
		if strings.TrimSpace(text[line:s.At]) != "" || lines[line] {
			t.Fatalf("15.2: in %.300q the statement at %d is not on a line", text, s.At)
		}
		lines[line] = true
	})
}

// withParens is the tree in which the At of each expression says how many parentheses
// stand around it: one around each of those that 15.2 names, and one around what is
// indexed or called and begins neither with a name nor with one.
func withParens(l []api.Stat) []api.Stat {
	l = tree.Bare(l)
	visit(&l, func(v reflect.Value) {
		e, ok := v.Addr().Interface().(*api.Exp)
		if !ok {
			return
		}
		switch e.Kind {
		case api.ExpBinary, api.ExpAnd, api.ExpOr, api.ExpNot, api.ExpMinus, api.ExpLen:
			e.At = 1
		case api.ExpIndex, api.ExpCall:
			if kind := e.L[0].Kind; kind != api.ExpName && kind != api.ExpIndex && kind != api.ExpCall {
				e.L[0].At = 1
			}
		}
	})
	return l
}

func TestTextOfStatements(t *testing.T) {
	for _, s := range []string{
		"", "local x", "local x = 1", "x = 1", "x[1] = 2", "x[1][2] = 3", "f()[1] = 2", "f()", "f(1, 2)", "f(1)(2)()", "x[1](2)",
		"if x then end", "if x then y = 1 end", "if x then else end", "if x then else y = 1 end", "if x then elseif y then end", "if x then f() elseif y then g() elseif z then h() else i() end",
		"if x then else if y then end end", "while x do end", "while x do f() g() end", "repeat until x", "repeat f() until x",
		"for i = 1, 2 do end", "for i = 1, 2, 3 do f(i) end", "for k, v in t do end", "for k, v in t do f(k, v) end",
		"break", "return", "return 1", "do end", "do f() end", "do do end do break end end", "do return end", "f() g() return h()",
		"local function f() end", "local function f(a) return a end", "local function f(a, b, c) f(c, b, a) end", "local f = function() end",
	} {
		wantText(t, s, s)
	}
	wantText(t, "f();g();", "f() g()")
	wantText(t, "return;", "return")
	wantText(t, "return 1;", "return 1")
	wantText(t, "do return; end;", "do return end")
	wantText(t, " -- nothing\n", "")
	wantText(t, "f()--\ng()", "f() g()")
}

func TestTextOfExpressions(t *testing.T) {
	for _, s := range []string{
		"nil", "true", "false", "0", "1", "42", "9223372036854775807", `""`, `"x"`, `"it's"`, "x", "_", "KEYS", "x[1]", "x[y]", "x[y[z]]", `x["y"]`, "f()", "f(1)", "f(1, nil, {}, g(x))", "f()()", "f()[1]()",
		"function() end", "function(a) end", "function(a, b) return (a + b) end", "function() return function() end end", "{}", "{1}", "{1, 2}", "{x = 1}", "{[x] = 1}", `{["x"] = 1}`, "{[1] = 1}", "{1, x = 2, 3, [4] = 5, 6}", "{{}, {{}}}", "{f(), function() end}",
		"(1 + 2)", "(1 + (2 * 3))", "((1 + 2) * 3)", "(not x)", "(-x)", "(#x)", "(-1)", "(-(-1))", "(not (not x))", "(#(-(not x)))", "(-(1 + 2))", "((-1) + 2)", "(a and b)", "(a or (b and c))", "((a or b) and c)",
		"f((1 + 2), (-x))", "x[(1 + 2)]", "{(1 + 2), [(-x)] = (not x), y = (a or b)}", "(x + y)[1]", "(-x)[1]", "(not x)()", "(a and b)(c)", "(a or b)[c](d)", `("x")[1]`, "(1)[1]", "(nil)()", "(true)()", "(false)[x]", "({})[1]", "({1})[1][2]", "(function() end)()", "(function(x) end)(1)[2]",
	} {
		wantText(t, "return "+s, "return "+s)
		wantText(t, "local x = "+s, "local x = "+s)
		wantText(t, "x["+s+"] = "+s, "x["+s+"] = "+s)
		wantText(t, "if "+s+" then end", "if "+s+" then end")
		wantText(t, "while "+s+" do end", "while "+s+" do end")
		wantText(t, "repeat until "+s, "repeat until "+s)
		wantText(t, "for i = "+s+", "+s+", "+s+" do end", "for i = "+s+", "+s+", "+s+" do end")
		wantText(t, "for k, v in "+s+" do end", "for k, v in "+s+" do end")
		wantText(t, "f("+s+", "+s+")", "f("+s+", "+s+")")
	}
}

// Operators, parentheses, keys and strings as sources may have them.
func TestTextOfOtherForms(t *testing.T) {
	for source, want := range map[string]string{
		"1 + 2 * 3": "(1 + (2 * 3))", "1 * 2 + 3": "((1 * 2) + 3)", "1 - 2 - 3": "((1 - 2) - 3)", "1 - (2 - 3)": "(1 - (2 - 3))", "1 .. 2 .. 3": "(1 .. (2 .. 3))", "(1 .. 2) .. 3": "((1 .. 2) .. 3)",
		"a or b and c == d .. e + f * -g": "(a or (b and (c == (d .. (e + (f * (-g)))))))", "a == b == c": "((a == b) == c)", "not a == b": "((not a) == b)", "not (a == b)": "(not (a == b))", "- -1": "(-(-1))", "-(-1)": "(-(-1))", "#x + 1": "((#x) + 1)", "-x.y": `(-x["y"])`, "-f(x)": "(-f(x))",
		"((x))": "x", "(x).y": `x["y"]`, "(x)()": "x()", "(f(x))": "f(x)", "((1))": "1", "('a')": `"a"`, "((a + b))": "(a + b)", "(((a + b)))[1]": "(a + b)[1]", "(x.y).z": `x["y"]["z"]`,
		"x.y": `x["y"]`, "x.y.z(1).w": `x["y"]["z"](1)["w"]`, "{1, 2,}": "{1, 2}", "{1; 2;}": "{1, 2}", "{a = 1; 2}": "{a = 1, 2}", "{[1] = 2;}": "{[1] = 2}",
		"007": "7", "'a'": `"a"`, `'"'`: `"\x22"`, `'\''`: `"'"`, `"\\"`: `"\x5c"`, `"\n\t"`: `"\x0a\x09"`, `"\x41\x7e\x7f\x80"`: `"A~\x7f\x80"`, "'\xff\r'": `"\xff\x0d"`,
	} {
		wantText(t, "return "+source, "return "+want)
		wantText(t, "x[1]="+source, "x[1]="+want)
		wantText(t, "return{"+source+","+source+"}", "return{"+want+","+want+"}")
		wantText(t, "return function()return "+source+" end", "return function()return "+want+" end")
	}
	for _, sign := range operators()[1:] {
		wantText(t, "return a "+sign+" b", "return (a "+sign+" b)")
		wantText(t, "return -1"+sign+"2"+sign+"x", map[bool]string{false: "return (((-1)" + sign + "2)" + sign + "x)", true: "return ((-1)..(2 ..x))"}[sign == ".."])
	}
	for _, sign := range []string{"and", "or"} {
		wantText(t, "return a "+sign+" b "+sign+" c", "return ((a "+sign+" b) "+sign+" c)")
	}
	wantText(t, "x.y = 1", `x["y"] = 1`)
	wantText(t, "x.y.z()", `x["y"]["z"]()`)
}

// Each byte of a string stands for itself, or is written by its number.
func TestTextOfStrings(t *testing.T) {
	for b := range 256 {
		s := string([]byte{byte(b)})
		want := s
		if b < 32 || b > 126 || s == `"` || s == `\` {
			want = fmt.Sprintf(`\x%02x`, b)
		}
		for _, around := range []string{"", "a", `\`, "0", "\n"} {
			e := api.Exp{Kind: api.ExpString, S: s + around + s}
			l := []api.Stat{{Kind: api.StatReturn, L: []api.Exp{e}}}
			shown := strings.NewReplacer(`\`, `\x5c`, "\n", `\x0a`).Replace(around)
			if text := tree.Text(l); !strings.Contains(text, `"`+want+shown+want+`"`) {
				t.Errorf("15.2: the string %q in the text %q", e.S, text)
			}
			wantRoundTrip(t, l)
		}
	}
	longest := "return " + strings.Repeat("'"+strings.Repeat("x", api.MaxText-8)+"'..", 3) + "''"
	wantText(t, longest, "return ("+strings.ReplaceAll(longest[7:len(longest)-4], "..", "..(")+`..""`+strings.Repeat(")", 3))
}

// A plain text has no bytes but those that can be seen, blanks and ends of lines.
func wantPlain(t *testing.T, text string) {
	t.Helper()
	for i := range len(text) {
		if b := text[i]; b != '\n' && (b < 32 || b > 126) {
			t.Fatalf("15.2: the byte %d at %d of the text %.300q", b, i, text)
		}
	}
	if strings.Contains(text, "--") && !strings.Contains(text, `"`) {
		t.Fatalf("15.2: a comment in the text %.300q", text)
	}
}

func TestTextOfAllSorts(t *testing.T) {
	tried, deepest := 0, 0
	for _, l := range append(blocksOfAllSorts(4000), nil, []api.Stat{}) {
		text := tree.Text(l)
		wantPlain(t, text)
		if len(text) > api.MaxSource {
			continue
		}
		wantRoundTrip(t, l)
		wantRoundTrip(t, setPlaces(l))
		tried, deepest = tried+1, max(deepest, tree.Deep(l))
	}
	if tried < 3000 || deepest < 30 {
		t.Errorf("15.3: %d texts were parsed, the deepest one %d deep", tried, deepest)
	}
}

// Sources whose trees nest in a single way, up to a Deep of 40.
func TestTextOfTheDeepest(t *testing.T) {
	for _, x := range []struct{ front, inner, back string }{
		{"- ", "x", ""}, {"not ", "x", ""}, {"#", "x", ""}, {"1+(", "x", ")"}, {"(", "x", ")+1"}, {"1 ..", "x", ""}, {"(", "x", ")..1"}, {"x and(", "y", ")"}, {"(", "x", ")or y"}, {"-(1+", "x", ")"}, {"-(1 ..", "x", ")"}, {"1 ..-", "x", ""}, {"not(x==", "y", ")"},
		{"x[", "1", "]"}, {"x[-", "1", "]"}, {"(", "x", ").y"}, {"(", "x", ")[1]"}, {"({", "1", "})[1]"}, {"({[", "1", "]=2})[1]"}, {"f(", "1", ")"}, {"f(1,2,", "3", ")"}, {"(", "f", ")()"}, {"(-", "f", ")(1)"}, {"('a'..", "f", ")()"},
		{"{", "1", "}"}, {"{1,{", "1", "}}"}, {"{x=", "1", "}"}, {"{[", "1", "]=1}"}, {"{[{", "1", "}]=1}"}, {"function()return ", "1", " end"}, {"(function()return ", "1", " end)()"}, {"-(function()return ", "1", " end)()"}, {"{function(x)x=", "1", " end}"}, {"{(function()return 1 ..", "x", " end)()}"},
		{"function()if x then elseif ", "y", " then end end"}, {"function()for i=1,", "2", " do end end"}, {"function()while x do return ", "1", " end end"}, {"function()repeat until ", "x", " end"}, {"-{function()do return ", "1", " end end}"},
	} {
		deepest := 0
		for n := range 45 {
			source := "return " + strings.Repeat(x.front, n) + x.inner + strings.Repeat(x.back, n)
			l, wrong := model(source, false)
			if wrong != "" || tree.Deep(l) > 40 {
				break
			}
			wantRoundTrip(t, l)
			deepest = tree.Deep(l)
		}
		if deepest < 36 {
			t.Errorf("15.3: %s%s%s nests to a Deep of %d only", x.front, x.inner, x.back, deepest)
		}
	}
	for _, x := range []struct{ front, back string }{
		{"do ", " end"}, {"if x then ", " end"}, {"if x then else ", " end"}, {"if x then elseif y then ", " end"}, {"while x do ", " end"}, {"repeat ", " until x"}, {"for i=1,2 do ", " end"}, {"for k,v in t do ", " end"}, {"local function f(x) ", " end"}, {"f(function() ", " end)"}, {"x[function() ", " end]=1"},
	} {
		for n := range 41 {
			l, wrong := model(strings.Repeat(x.front, n)+"break"+strings.Repeat(x.back, n), false)
			if wrong != "" {
				t.Fatalf("%d times %s: %s", n, x.front, wrong)
			}
			if tree.Deep(l) <= 40 {
				wantRoundTrip(t, l)
			}
		}
	}
}

// The most parameters, arguments and fields, and the longest names.
func TestTextOfTheMost(t *testing.T) {
	long := strings.Repeat("n", 32)
	names := strings.Repeat(long+",", 15) + long
	wantText(t, "return function("+names+") end", "return function("+names+") end")
	wantText(t, "local function "+long+"("+names+") end", "local function "+long+"("+names+") end")
	wantText(t, "f("+names+")", "f("+names+")")
	fields := strings.Repeat("1,", 63) + "1"
	wantText(t, "return {"+fields+"}", "return {"+fields+"}")
	fields = strings.Repeat(long+"=1,", 32) + strings.Repeat("[1]=1,", 16) + strings.Repeat("1,", 16)
	wantText(t, "return {"+fields+"}", "return {"+fields[:len(fields)-1]+"}")
	wantText(t, "for "+long+","+long+" in x do end", "for "+long+","+long+" in x do end")
}

// A key that has no brackets keeps its Op, in whatever order the fields are.
func TestTextOfKeys(t *testing.T) {
	for _, s := range []string{"{x=1}", "{['x']=1}", "{1}", "{[1]=1}", "{x=1,['x']=2}", "{[1]=1,2}", "{1,[1]=2}", "{1,[2]=2,3}", "{x=x,x}", "{x=y,y=x,['y']=x,[x]=y}", "{_=1}", "{['end']=1}", "{['1']=1}", "{['']=1}", "{['a b']=1}", "{(x),y}", "{x==1}", "{x=x==1}", "{[x+y]=1}", "{[1+2]=1}", "{['a'+1]=1,2}", "{[x-y]=1}", "{x+y,x=x+y}"} {
		wantRoundTrip(t, parsed(t, "return "+s))
	}
	plain, brackets := parsed(t, "return {x=1}"), parsed(t, "return {['x']=1}")
	if a, b := tree.Text(plain), tree.Text(brackets); a == b {
		t.Errorf("15.3: both texts are %q", a)
	}
	index := parsed(t, "return x.y")
	index[0].L[0].L[1].Op = 1
	if text := tree.Text(index); !slices.Equal(tokensOf(t, text), tokensOf(t, "return x.y")) {
		t.Errorf("15.2: a key without brackets in the text %q", text)
	}
}

// What no parse returns has a text too, whatever it is.
func TestTextOfOddBlocks(t *testing.T) {
	odd := oddBlock()
	if tree.Text(odd) != tree.Text(copyOf(odd)) {
		t.Error("15.2: two texts of one block")
	}
	for kind := -2; kind < 30; kind++ {
		for parts := range 5 {
			for op := -1; op < 15; op++ {
				e := api.Exp{Kind: kind, Op: op, L: slices.Repeat([]api.Exp{{Kind: kind, Op: op}}, parts), F: make([]api.Func, parts)}
				for blocks := range 4 {
					l := []api.Stat{{Kind: kind, Names: make([]string, blocks), L: slices.Repeat([]api.Exp{e}, parts), Blocks: make([][]api.Stat, blocks)}, {Kind: api.StatReturn, L: []api.Exp{e}}}
					before := copyOf(l)
					if text := tree.Text(l); text != tree.Text(l) || !reflect.DeepEqual(l, before) {
						t.Fatalf("15.2: Text(%s) is %q, then something else", show(before), text)
					}
				}
			}
		}
	}
}
