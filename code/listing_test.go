package code_test

import (
	"strconv"
	"strings"
	"testing"

	"scriptorium/code"
	"scriptorium/instr"
)

// listing writes a Proto down: for each function the one around it, its parameters and
// registers, what it takes, and its instructions.
func listing(p *code.Proto) string {
	names := strings.Fields("Step Const Move Share Fetch Store FetchTaken StoreTaken MakeFunc MakeTable Index SetIndex Call Not Minus Len Add Sub Mul Div Mod Join Same Other Less Most More Least Jump JumpIf JumpElse Count Again Visit Next Return")
	var b strings.Builder
	for i, f := range p.Functions {
		b.WriteString("function " + strconv.Itoa(i) + " in " + strconv.Itoa(f.Within) + ", " + strconv.Itoa(f.Params) + " of " + strconv.Itoa(f.Registers))
		for _, t := range f.Taken {
			b.WriteString(", " + map[bool]string{false: "register ", true: "taken "}[t.IsAgain] + strconv.Itoa(t.At))
		}
		for j, in := range f.Code {
			b.WriteString("\n" + strconv.Itoa(j) + " " + names[in.Op-instr.Step])
			for k, n := range operands(&in) {
				if k < len(needs(in.Op)) || *n != 0 {
					b.WriteString(" " + strconv.Itoa(*n))
				}
			}
		}
		b.WriteString("\n")
	}
	for i, c := range p.Constants {
		b.WriteString(strings.Join([]string{"constant", strconv.Itoa(i), strconv.Itoa(c.Kind), strconv.FormatInt(c.N, 10), strconv.Quote(c.S)}, " ") + "\n")
	}
	return b.String()
}

// What some scripts are compiled to: with no more instructions, registers, constants and
// shared places than they need.
func TestListings(t *testing.T) {
	for _, x := range []struct{ source, want string }{
		{"", `
function 0 in 0, 2 of 3
0 Const 2 0
1 Return 2
constant 0 0 0 ""
`},
		{"return 1 + 2", `
function 0 in 0, 2 of 4
0 Step 3
1 Const 2 0
2 Step 1
3 Const 3 1
4 Add 2 2 3
5 Return 2
constant 0 2 1 ""
constant 1 2 2 ""
`},
		{"if KEYS then return KEYS elseif ARGV then ARGV = KEYS end", `
function 0 in 0, 2 of 3
0 Step 2
1 JumpElse 0 5
2 Step 2
3 Return 0
4 Jump 0 9
5 Step 1
6 JumpElse 1 9
7 Step 2
8 Move 1 0
9 Const 2 0
10 Return 2
constant 0 0 0 ""
`},
		{"local a = {1, x = 'x', [type] = nil} return -a.x", `
function 0 in 0, 2 of 5
0 Step 2
1 MakeTable 2
2 Const 3 0
3 Step 1
4 Const 4 0
5 SetIndex 2 3 4
6 Const 3 1
7 Step 1
8 Const 4 1
9 SetIndex 2 3 4
10 Step 1
11 Const 3 2
12 Step 1
13 Const 4 3
14 SetIndex 2 3 4
15 Step 5
16 Const 3 1
17 Index 3 2 3
18 Minus 3 3
19 Return 3
constant 0 2 1 ""
constant 1 3 0 "x"
constant 2 5 0 "type"
constant 3 0 0 ""
`},
		{"local a = true local function f(b, c) a = c return function() a = b return f(a) end end", `
function 0 in 0, 2 of 5
0 Step 2
1 Const 2 0
2 Share 2
3 Step 1
4 Const 3 1
5 Share 3
6 Step 1
7 MakeFunc 4 1
8 Store 3 4
9 Const 4 1
10 Return 4
function 1 in 0, 2 of 3, register 2, register 3
0 Share 0
1 Step 2
2 StoreTaken 0 1
3 Step 2
4 MakeFunc 2 2
5 Return 2
function 2 in 1, 0 of 2, register 0, taken 0, taken 1
0 Step 2
1 FetchTaken 0 0
2 StoreTaken 1 0
3 Step 3
4 FetchTaken 0 2
5 Step 1
6 FetchTaken 1 1
7 Call 0 1
8 Return 0
constant 0 1 1 ""
constant 1 0 0 ""
`},
		{"for i = 1, 5 do while KEYS[i] do if ARGV and i then break end end end for k, v in KEYS do ARGV[k] = v end", `
function 0 in 0, 2 of 7
0 Step 2
1 Const 2 0
2 Step 1
3 Const 3 1
4 Const 4 0
5 Count 2 20
6 Step 2
7 Step 3
8 Index 6 0 5
9 JumpElse 6 19
10 Step 4
11 Move 6 1
12 JumpElse 6 15
13 Step 1
14 Move 6 5
15 JumpElse 6 18
16 Step 1
17 Jump 0 19
18 Jump 0 7
19 Again 2 6
20 Step 2
21 Move 2 0
22 Visit 2
23 Next 2 27
24 Step 5
25 SetIndex 1 3 4
26 Jump 0 23
27 Const 2 2
28 Return 2
constant 0 2 1 ""
constant 1 2 5 ""
constant 2 0 0 ""
`},
	} {
		p, _, _ := code.Source(x.source)
		if got := "\n" + listing(p); got != x.want {
			t.Errorf("18.3: %s is compiled to%s\nwant%s", x.source, got, x.want)
		}
	}
}
