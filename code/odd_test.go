package code_test

import (
	"strconv"
	"strings"
	"testing"

	"scriptorium/api"
	"scriptorium/code"
	"scriptorium/instr"
	"scriptorium/scope"
	"scriptorium/tree"
)

// Blocks that no parse returns, deep ones and great ones.

// wantAny asks for what 18.1 and 18.2 say of any block.
func wantAny(t *testing.T, l []api.Stat) bool {
	t.Helper()
	before := copyOf(l)
	wantErr, wantAt := scope.Check(l)
	p, err, at := code.Compile(l)
	if err != wantErr || at != wantAt || (p == nil) != (err != api.OK) {
		t.Fatalf("18.1: Compile of %+v is %v, %d, %d, want %d, %d", l, p, err, at, wantErr, wantAt)
	}
	if !tree.Same(l, before) {
		t.Fatalf("Compile changes %+v", before)
	}
	if p == nil {
		return false
	}
	if size, most := code.Size(p), 16+16*tree.Count(l); !code.Check(p) || size > most {
		t.Fatalf("18.2: Check of the Proto of %+v is %v, Size %d of %d", l, code.Check(p), size, most)
	}
	return true
}

// odd makes blocks of parts that may be missing, too many, or in places where they do not
// belong.
type odd struct {
	*chance
	room int
}

func (o *odd) names(n int) (l []string) {
	for range n {
		l = append(l, pick(o.chance, "a", "b", "", "KEYS", "type"))
	}
	return l
}

func (o *odd) block() (l []api.Stat) {
	for range o.below(4) {
		if o.room--; o.room < 0 {
			break
		}
		s := api.Stat{Kind: o.below(15) - 1, At: o.below(100), Names: o.names(o.below(4)), L: o.exps()}
		for range o.below(4) {
			s.Blocks = append(s.Blocks, o.block())
		}
		l = append(l, s)
	}
	return l
}

func (o *odd) exps() (l []api.Exp) {
	for range o.below(5) {
		if o.room--; o.room < 0 {
			break
		}
		e := api.Exp{Kind: o.below(19) - 1, At: o.below(100), N: int64(o.below(9)), S: o.names(1)[0], Op: o.below(16) - 1, L: o.exps()}
		if o.below(8) == 0 {
			e.Op = o.below(90) - 45
		}
		if e.Kind == api.ExpName && o.below(4) > 0 {
			e.S = "KEYS"
		}
		for o.below(3) == 0 {
			e.F = append(e.F, api.Func{Params: o.names(o.below(4)), Body: o.block()})
		}
		l = append(l, e)
	}
	return l
}

func TestOdd(t *testing.T) {
	c := newChance()
	count := map[bool]int{}
	for range 30000 {
		o := &odd{c, 2 + c.below(60)}
		count[wantAny(t, o.block())]++
	}
	for op := -100; op < 100; op++ {
		wantAny(t, []api.Stat{{Kind: api.StatReturn, L: []api.Exp{{Kind: api.ExpBinary, Op: op, L: []api.Exp{integer(1), integer(2)}}}}})
	}
	if count[true] < 5000 || count[false] < 5000 {
		t.Errorf("the blocks are of few kinds: %v", count)
	}
}

// Statements and expressions of all kinds with all numbers of parts.
func TestParts(t *testing.T) {
	f := api.Func{Params: []string{"a"}, Body: []api.Stat{{Kind: api.StatReturn, L: []api.Exp{named("a"), named("KEYS")}}}}
	exps := []api.Exp{named("KEYS"), integer(1), {}, {Kind: api.ExpFunc, F: []api.Func{f}}, named("type"), {Kind: api.ExpBinary, Op: 13, L: []api.Exp{integer(1)}}}
	block := []api.Stat{{Kind: api.StatCall, L: exps[3:]}, {}, {Kind: api.StatReturn}, {Kind: 13}}
	n := 0
	for kind := -1; kind < 18; kind++ {
		for parts := range len(exps) + 1 {
			for more := range 4 {
				s := api.Stat{Kind: kind, Names: strings.Split("a b c", " ")[:min(more, 3)], L: exps[:parts]}
				e := api.Exp{Kind: kind, S: "type", Op: more, L: exps[:parts]}
				for range more {
					s.Blocks = append(s.Blocks, block)
					e.F = append(e.F, f)
				}
				for _, l := range [][]api.Stat{{s}, {s, s}, {{Kind: api.StatWhile, Blocks: [][]api.Stat{{s}}}}, {{Kind: api.StatReturn, L: []api.Exp{e}}}, {{Kind: api.StatSet, L: []api.Exp{e, e}}}, {{Kind: api.StatFunc, Names: []string{"a"}, L: []api.Exp{e}}}} {
					if wantAny(t, l) {
						n++
					}
				}
			}
		}
	}
	if n < 2500 {
		t.Errorf("there are only %d blocks", n)
	}
}

// A block with many blocks or names that need no instructions has none for them.
func TestNothingForNothing(t *testing.T) {
	for _, n := range []int{20, 100, 1000} {
		var names []string
		for i := range n {
			names = append(names, "p"+strconv.Itoa(i))
		}
		empty := make([][]api.Stat, n)
		for kind := -1; kind < 15; kind++ {
			wantAny(t, []api.Stat{{Kind: kind, Blocks: empty}})
			wantAny(t, []api.Stat{{Kind: kind, Blocks: empty, L: make([]api.Exp, 2)}})
			wantAny(t, []api.Stat{{Kind: kind, Names: names[:20]}})
		}
		for kind := -1; kind < 19; kind++ {
			wantAny(t, []api.Stat{{Kind: api.StatReturn, L: []api.Exp{{Kind: kind, F: []api.Func{{Params: names}, {Params: names}}}}}})
		}
	}
}

// deepBlocks puts things into one another, in each way there is.
func deepBlocks(deep int) map[string][]api.Stat {
	all := map[string][]api.Stat{}
	e := func(what string, start api.Exp, in func(api.Exp) api.Exp) {
		for range deep {
			start = in(start)
		}
		all[what] = []api.Stat{{Kind: api.StatReturn, L: []api.Exp{start}}}
	}
	with := func(kind, op int, before ...api.Exp) func(api.Exp) api.Exp {
		return func(x api.Exp) api.Exp {
			return api.Exp{Kind: kind, Op: op, L: append(before[:len(before):len(before)], x)}
		}
	}
	one := integer(1)
	for what, in := range map[string]func(api.Exp) api.Exp{
		"not": with(api.ExpNot, 0), "minus": with(api.ExpMinus, 0), "length": with(api.ExpLen, 0), "sum": with(api.ExpBinary, api.OpAdd, one), "and": with(api.ExpAnd, 0, one), "or": with(api.ExpOr, 0, named("KEYS")), "index": with(api.ExpIndex, 0, named("KEYS")), "argument": with(api.ExpCall, 0, named("type")), "callee": with(api.ExpCall, 0), "field": with(api.ExpTable, 0, one),
		"key":      func(x api.Exp) api.Exp { return api.Exp{Kind: api.ExpTable, L: []api.Exp{x, one}} },
		"left":     func(x api.Exp) api.Exp { return api.Exp{Kind: api.ExpBinary, Op: api.OpSub, L: []api.Exp{x, one}} },
		"function": func(x api.Exp) api.Exp { return inFunction(nil, x) },
		"called":   func(x api.Exp) api.Exp { return calling(inFunction([]string{"a"}, x), one) },
	} {
		e(what, named("KEYS"), in)
	}
	for what, kind := range map[string]int{"do": api.StatDo, "while": api.StatWhile, "repeat": api.StatRepeat, "if": api.StatIf} {
		l := []api.Stat{{Kind: api.StatReturn, L: []api.Exp{named("KEYS")}}}
		for range deep {
			l = []api.Stat{{Kind: kind, L: []api.Exp{named("ARGV")}, Blocks: [][]api.Stat{l}}}
		}
		all[what] = l
	}
	return all
}

func inFunction(params []string, e api.Exp) api.Exp {
	return api.Exp{Kind: api.ExpFunc, F: []api.Func{{Params: params, Body: []api.Stat{{Kind: api.StatReturn, L: []api.Exp{e}}}}}}
}

func TestDeep(t *testing.T) {
	for what, l := range deepBlocks(1<<16 - 2) {
		p, err, at := code.Compile(l)
		if err != api.OK || !code.Check(p) || code.Size(p) > 16+16*tree.Count(l) {
			t.Errorf("18.1: Compile of a deep %s is %d, %d, with Check %v and Size %d", what, err, at, code.Check(p), code.Size(p))
		}
	}
	for what, l := range deepBlocks(20) {
		if what == "callee" {
			continue // which calls a table
		}
		wantSameRun(t, parsed(t, tree.Text(l)), 1000)
	}
}

// A great number of everything.
func TestGreat(t *testing.T) {
	const n = 100000
	var statements, declared []api.Stat
	table, call, sum := api.Exp{Kind: api.ExpTable}, calling(named("type")), integer(0)
	f := api.Func{}
	for i := range n {
		e := integer(int64(i))
		name := "n" + strconv.Itoa(i)
		statements = append(statements, api.Stat{Kind: api.StatCall, L: []api.Exp{calling(named("type"), e)}})
		declared = append(declared, api.Stat{Kind: api.StatDo, Blocks: [][]api.Stat{{{Kind: api.StatLocal, Names: []string{name}}, {Kind: api.StatReturn, L: []api.Exp{inFunction(nil, named(name))}}}}})
		table.L = append(table.L, e, quoted(name))
		call.L = append(call.L, e)
		f.Params = append(f.Params, name)
		if i < 1<<15 {
			sum = api.Exp{Kind: api.ExpBinary, Op: api.OpAdd, L: []api.Exp{sum, e}}
		}
	}
	f.Body = []api.Stat{{Kind: api.StatReturn, L: []api.Exp{inFunction(nil, named("n7")), named("n99999")}}}
	for what, l := range map[string][]api.Stat{
		"statements": statements, "names": declared,
		"fields": {{Kind: api.StatReturn, L: []api.Exp{table}}}, "arguments": {{Kind: api.StatReturn, L: []api.Exp{call}}}, "sums": {{Kind: api.StatReturn, L: []api.Exp{sum}}}, "parameters": {{Kind: api.StatReturn, L: []api.Exp{{Kind: api.ExpFunc, F: []api.Func{f}}}}},
	} {
		if p := wantRight(t, l); what != "parameters" && code.Size(p) < 1<<15 {
			t.Errorf("18.1: %s have %d instructions", what, code.Size(p))
		}
	}
}

// A name that many functions within one another take is taken once by each.
func TestTakenOnce(t *testing.T) {
	e := api.Exp{Kind: api.ExpTable}
	for i := range 2000 {
		e.L = append(e.L, integer(int64(i/2)), named("x"))
	}
	for range 50 {
		e = inFunction(nil, e)
	}
	p := wantRight(t, []api.Stat{{Kind: api.StatLocal, Names: []string{"x"}}, {Kind: api.StatReturn, L: []api.Exp{e}}})
	for i, f := range p.Functions[1:] {
		if len(f.Taken) != 1 || f.Taken[0].IsAgain != (i > 0) {
			t.Errorf("function %d takes %v", i+1, f.Taken)
		}
	}
	if len(p.Constants) != 1001 {
		t.Errorf("there are %d constants for nil and 1000 numbers", len(p.Constants))
	}
}

// Names that no function takes from around are kept in registers alone.
func TestNotShared(t *testing.T) {
	for _, s := range []string{"local a = 1 a = a + 1 for i = 1, a do local b = i a = b end for k, v in KEYS do ARGV[k] = v end return a", "return function(a) local b = a return function(c) local a = c return a end end", "local function f(a) repeat local x = a until x return a end return f(f)"} {
		for _, f := range wantRight(t, parsed(t, s)).Functions {
			for _, in := range f.Code {
				switch in.Op {
				case instr.Share, instr.Fetch, instr.Store, instr.FetchTaken, instr.StoreTaken:
					t.Errorf("%q has an instruction %d", s, in.Op)
				}
			}
			if len(f.Taken) > 0 {
				t.Errorf("%q takes %v", s, f.Taken)
			}
		}
	}
}
