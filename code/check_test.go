package code_test

import (
	"math"
	"reflect"
	"slices"
	"testing"

	"scriptorium/api"
	"scriptorium/code"
	"scriptorium/instr"
)

// samples are Protos in which all instructions occur.
func samples(t *testing.T) (l []*code.Proto) {
	t.Helper()
	for _, s := range []string{
		"", "return 1 + 2", "return {KEYS, x = ARGV, ['y'] = {type, true, nil}}", "for i = 1, 3, 2 do if i == 2 then break elseif i then call(i) else return end end", "for k, v in KEYS do ARGV[k] = v .. #v end while not ARGV[5] do ARGV[5] = -5 end",
		"local n = 0 local function up(a, b) n = n + a return function() a = n - b b = a * 2 // 3 % 4 return b end end return up(n, 1)",
		"local y repeat local x = call('a') local f = function(a, b) y = x return x and KEYS or function(c) x = y return x ~= b end end until f() < x or x <= 1 or x > 2 or x >= 3",
		"local function f() return f end f = f return (function() return function() return function() return f end end end)()",
	} {
		p, err, at := code.Source(s)
		if err != api.OK {
			t.Fatalf("Source(%q) is %d, %d", s, err, at)
		}
		l = append(l, p)
	}
	c := newChance()
	for range 30 {
		l = append(l, wantRight(t, grown(c, 10+c.below(40))))
	}
	return l
}

func copyOfProto(p *code.Proto) *code.Proto {
	made := &code.Proto{Functions: slices.Clone(p.Functions), Constants: slices.Clone(p.Constants)}
	for i, f := range made.Functions {
		made.Functions[i].Code = slices.Clone(f.Code)
		made.Functions[i].Taken = slices.Clone(f.Taken)
	}
	return made
}

// wantCheck asks for an answer of Check, and for a Proto that stays as it is.
func wantCheck(t *testing.T, p *code.Proto, want bool, what string, args ...any) {
	t.Helper()
	before := copyOfProto(p)
	if got := code.Check(p); got != want {
		t.Errorf("18.2: Check is %v, want %v, where "+what, append([]any{got, want}, args...)...)
	}
	if !reflect.DeepEqual(p, before) {
		t.Errorf("Check changes a Proto where "+what, args...)
	}
}

// needs returns what A, B and C of an instruction have to be: a register (r), one with 2 or
// 3 others behind it (2, 3), a constant (k), a function within (f), what is taken from
// around (t), an instruction (i), a number of steps (n) or of arguments behind A (a).
func needs(op int) string {
	return map[int]string{
		instr.Step: "n", instr.Const: "rk", instr.Move: "rr", instr.Share: "r", instr.Fetch: "rr", instr.Store: "rr", instr.FetchTaken: "rt", instr.StoreTaken: "tr",
		instr.MakeFunc: "rf", instr.MakeTable: "r", instr.Index: "rrr", instr.SetIndex: "rrr", instr.Call: "ra", instr.Not: "rr", instr.Minus: "rr", instr.Len: "rr",
		instr.Add: "rrr", instr.Sub: "rrr", instr.Mul: "rrr", instr.Div: "rrr", instr.Mod: "rrr", instr.Join: "rrr", instr.Same: "rrr", instr.Other: "rrr", instr.Less: "rrr", instr.Most: "rrr", instr.More: "rrr", instr.Least: "rrr",
		instr.Jump: " i", instr.JumpIf: "ri", instr.JumpElse: "ri", instr.Count: "3i", instr.Again: "3i", instr.Visit: "r", instr.Next: "2i", instr.Return: "r",
	}[op]
}

// exists reports whether there is what an operand of an instruction needs.
func exists(p *code.Proto, function int, in instr.Instruction, need byte, n int) bool {
	f := p.Functions[function]
	end := math.MaxInt
	switch need {
	case ' ':
		return true
	case 'n':
		return n > 0
	case 'r':
		end = f.Registers
	case '2', '3':
		end = f.Registers - int(need-'0')
	case 'a':
		end = f.Registers - in.A
	case 'k':
		end = len(p.Constants)
	case 't':
		end = len(f.Taken)
	case 'i':
		end = len(f.Code)
	case 'f':
		return n > 0 && n < len(p.Functions) && p.Functions[n].Within == function
	}
	return n >= 0 && n < end
}

func allExist(p *code.Proto, function int, in instr.Instruction) bool {
	need := needs(in.Op) + "   "
	return exists(p, function, in, need[0], in.A) && exists(p, function, in, need[1], in.B) && exists(p, function, in, need[2], in.C)
}

// operands returns pointers to A, B and C.
func operands(in *instr.Instruction) []*int { return []*int{&in.A, &in.B, &in.C} }

// Each operand of each instruction, being anything.
func TestCheckOfOperands(t *testing.T) {
	count := map[bool]int{}
	seen := map[int]bool{}
	for _, whole := range samples(t) {
		p := copyOfProto(whole)
		for i, f := range p.Functions {
			for j := range f.Code {
				in := &f.Code[j]
				seen[in.Op] = true
				for k, n := range operands(in) {
					before := *n
					for _, *n = range values(f.Registers, len(p.Constants), len(p.Functions), len(f.Taken), len(f.Code)) {
						want := allExist(p, i, *in)
						count[want]++
						wantCheck(t, p, want, "operand %d of %v of function %d is %d in %v", k, *in, i, *n, p.Functions)
					}
					*n = before
				}
			}
		}
		wantCheck(t, p, true, "nothing is damaged in %v", p)
	}
	if count[true] < 10000 || count[false] < 10000 || len(seen) != instr.Return {
		t.Errorf("there are few operands of each kind: %v, of %d instructions", count, len(seen))
	}
}

// values returns numbers around these, and far ones.
func values(l ...int) (all []int) {
	for _, n := range append(l, 0) {
		for more := -5; more <= 1; more++ {
			all = append(all, n+more)
		}
	}
	all = append(all, math.MinInt, math.MinInt+1, math.MaxInt, math.MaxInt-1, math.MaxInt-3, 1<<31, 1<<32, -1<<31)
	slices.Sort(all)
	return slices.Compact(all)
}

// wantDamaged asks for false where a change of a Proto leaves something out.
func wantDamaged(t *testing.T, whole *code.Proto, what string, change func(*code.Proto)) {
	t.Helper()
	p := copyOfProto(whole)
	change(p)
	wantCheck(t, p, false, what+" in %v instead of %v", p, whole)
}

func TestCheckOfInstructions(t *testing.T) {
	for _, p := range samples(t) {
		for i, f := range p.Functions {
			last := len(f.Code) - 1
			for j := range f.Code {
				for _, op := range []int{0, -1, instr.Return + 1, instr.Return + 2, -instr.Return, math.MaxInt, math.MinInt} {
					wantDamaged(t, p, "there is no such instruction", func(p *code.Proto) { p.Functions[i].Code[j] = instr.Instruction{Op: op} })
				}
			}
			for op := range instr.Return {
				wantDamaged(t, p, "the last instruction ends nothing", func(p *code.Proto) { p.Functions[i].Code[last] = instr.Instruction{Op: op, A: 1} })
			}
			wantDamaged(t, p, "the last instruction is followed by another one", func(p *code.Proto) {
				p.Functions[i].Code = append(p.Functions[i].Code, instr.Instruction{Op: instr.Step, A: 1})
			})
			wantDamaged(t, p, "a function has no instructions", func(p *code.Proto) { p.Functions[i].Code = nil })
			if last > 0 && f.Code[last-1].Op != instr.Return {
				wantDamaged(t, p, "the last instruction is not there", func(p *code.Proto) { p.Functions[i].Code = p.Functions[i].Code[:last] })
			}
		}
	}
}

func TestCheckOfFunctions(t *testing.T) {
	for _, whole := range samples(t) {
		for _, n := range []int{-1, 0, 1, 3, 1 << 40} {
			wantDamaged(t, whole, "the script has not two arguments", func(p *code.Proto) { p.Functions[0].Params = n })
		}
		for _, n := range []int{-1, 1, 2, math.MaxInt, math.MinInt} {
			wantDamaged(t, whole, "the script is within a function", func(p *code.Proto) { p.Functions[0].Within = n })
		}
		for _, x := range []instr.Taken{{}, {IsAgain: true}} {
			wantDamaged(t, whole, "the script takes something", func(p *code.Proto) { p.Functions[0].Taken = []instr.Taken{x} })
		}
		for i, f := range whole.Functions {
			for _, n := range []int{-1, f.Registers + 1, math.MaxInt, math.MinInt} {
				wantDamaged(t, whole, "there are no such parameters", func(p *code.Proto) { p.Functions[i].Params = n })
			}
			for _, n := range []int{-1, 0, f.Registers - 1, math.MinInt} {
				wantDamaged(t, whole, "a register is missing", func(p *code.Proto) { p.Functions[i].Registers = n })
			}
			for n := range len(whole.Functions) + 2 {
				if n != f.Within {
					wantDamaged(t, whole, "a function is within another one", func(p *code.Proto) { p.Functions[i].Within = n })
				}
			}
			for _, n := range []int{-1, i, math.MaxInt, math.MinInt} {
				if i > 0 {
					wantDamaged(t, whole, "a function is within none", func(p *code.Proto) { p.Functions[i].Within = n })
				}
			}
			if i > 0 {
				wantDamaged(t, whole, "a function is missing", func(p *code.Proto) { p.Functions = p.Functions[:i] })
			}
		}
	}
	// More registers and less parameters than needed do no harm.
	for _, whole := range samples(t) {
		p := copyOfProto(whole)
		for i := range p.Functions {
			p.Functions[i].Registers += i * 3
			if i > 0 {
				p.Functions[i].Params = 0
			}
		}
		wantCheck(t, p, true, "there is more than needed in %v", p)
	}
}

func TestCheckOfTaken(t *testing.T) {
	count := map[bool]int{}
	for _, whole := range samples(t) {
		p := copyOfProto(whole)
		for i, f := range p.Functions {
			for j := range f.Taken {
				x := &f.Taken[j]
				before := *x
				around := p.Functions[f.Within]
				for _, x.IsAgain = range []bool{false, true} {
					end := map[bool]int{false: around.Registers, true: len(around.Taken)}[x.IsAgain]
					for _, x.At = range values(around.Registers, len(around.Taken), len(f.Taken)) {
						want := x.At >= 0 && x.At < end
						count[want]++
						wantCheck(t, p, want, "function %d takes %v in %v", i, *x, p.Functions)
					}
				}
				*x = before
			}
			if n := len(f.Taken); n > 0 {
				wantDamaged(t, p, "what a function takes is missing", func(p *code.Proto) { p.Functions[i].Taken = p.Functions[i].Taken[:n-1] })
			}
		}
	}
	if count[true] < 200 || count[false] < 1000 {
		t.Errorf("there is little that is taken: %v", count)
	}
}

func TestCheckOfConstants(t *testing.T) {
	for _, p := range samples(t) {
		for i := range p.Constants {
			wantDamaged(t, p, "a constant is missing", func(p *code.Proto) { p.Constants = p.Constants[:i] })
			for _, x := range []instr.Constant{
				{Kind: -1}, {Kind: api.CellTable}, {Kind: api.CellCo}, {Kind: 7}, {Kind: math.MaxInt}, {Kind: api.CellBool, N: 2}, {Kind: api.CellBool, N: -1},
				{Kind: api.CellFunc}, {Kind: api.CellFunc, S: "print"}, {Kind: api.CellFunc, S: "KEYS"}, {Kind: api.CellFunc, S: "Type"}, {Kind: api.CellFunc, S: "call "},
			} {
				wantDamaged(t, p, "there is no such constant", func(p *code.Proto) { p.Constants[i] = x })
			}
			for _, x := range []instr.Constant{{}, {Kind: api.CellBool}, {Kind: api.CellBool, N: 1}, {Kind: api.CellInt, N: math.MinInt64}, {Kind: api.CellText}, {Kind: api.CellText, S: "\x00"}, {Kind: api.CellFunc, S: "type"}, {Kind: api.CellFunc, S: "call"}} {
				other := copyOfProto(p)
				other.Constants[i] = x
				wantCheck(t, other, true, "constant %d is %v in %v", i, x, other)
			}
		}
	}
}

func TestCheckOfLittle(t *testing.T) {
	right := instr.Function{Params: 2, Registers: 2, Code: []instr.Instruction{{Op: instr.Return}}}
	wantCheck(t, &code.Proto{Functions: []instr.Function{right}}, true, "a script returns its keys")
	inner := instr.Function{Registers: 1, Code: []instr.Instruction{{Op: instr.Return}}}
	wantCheck(t, &code.Proto{Functions: []instr.Function{right, inner, inner}}, true, "functions are not used")
	for _, p := range []*code.Proto{
		nil, {}, {Functions: []instr.Function{}}, {Functions: make([]instr.Function, 1)}, {Functions: make([]instr.Function, 3)}, {Constants: make([]instr.Constant, 1)},
		{Functions: []instr.Function{inner}}, {Functions: []instr.Function{inner, right}}, {Functions: []instr.Function{right, {}}}, {Functions: []instr.Function{{Params: 2, Registers: 2}}},
		{Functions: []instr.Function{right, {Within: 1, Registers: 1, Code: inner.Code}}}, {Functions: []instr.Function{right, {Within: -1, Registers: 1, Code: inner.Code}}}, {Functions: []instr.Function{right, {Within: 2, Registers: 1, Code: inner.Code}, inner}},
		{Functions: []instr.Function{right, {Within: -1, Registers: 1, Taken: make([]instr.Taken, 1), Code: inner.Code}}}, {Functions: []instr.Function{right, {Within: 7, Registers: 1, Taken: make([]instr.Taken, 1), Code: inner.Code}}}, {Functions: []instr.Function{right, {Within: 1, Registers: 1, Taken: make([]instr.Taken, 1), Code: inner.Code}}},
		{Functions: []instr.Function{right, {Registers: 0, Code: []instr.Instruction{{Op: instr.Return}}}}},
	} {
		if code.Check(p) {
			t.Errorf("18.2: Check of %v is true", p)
		}
	}
}

// Size is the number of all instructions.
func TestSize(t *testing.T) {
	for _, p := range samples(t) {
		n := 0
		for _, f := range p.Functions {
			n += len(f.Code)
		}
		if got := code.Size(p); got != n || n == 0 {
			t.Errorf("18.2: Size is %d, want %d, of %v", got, n, p)
		}
	}
	one, two := instr.Function{Code: make([]instr.Instruction, 1)}, instr.Function{Code: make([]instr.Instruction, 2)}
	for _, x := range []struct {
		p    *code.Proto
		want int
	}{
		{nil, 0}, {&code.Proto{}, 0}, {&code.Proto{Functions: []instr.Function{one}}, 1}, {&code.Proto{Functions: []instr.Function{one, two, {}, two}}, 5}, {&code.Proto{Constants: make([]instr.Constant, 3)}, 0},
	} {
		if got := code.Size(x.p); got != x.want {
			t.Errorf("18.2: Size is %d, want %d", got, x.want)
		}
	}
}
