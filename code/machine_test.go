package code_test

import (
	"scriptorium/api"
	"scriptorium/code"
	"scriptorium/instr"
)

// machine executes a Proto, instruction by instruction, as package instr says.
type machine struct {
	*code.Proto
	done     map[int]int // how often each instruction was executed
	patience int
}

func newMachine(p *code.Proto) *machine {
	return &machine{p, map[int]int{}, 1 << 20}
}

// script returns the script itself.
func (m *machine) script() callable {
	return &compiled{m, m.Functions[0], nil}
}

// compiled is a function of a script with the places that it has taken.
type compiled struct {
	*machine
	instr.Function
	places []*place
}

type place struct{ value any }

func (f *compiled) run(w *world, args []any) any {
	r := make([]any, f.Registers)
	copy(r[:f.Params], args)
	for at := 0; ; {
		in := f.Code[at]
		at++
		f.done[in.Op]++
		if f.patience--; f.patience == 0 {
			panic("the machine does not come to an end")
		}
		if in.Op == instr.Return {
			return r[in.A]
		}
		if f.jumps(w, r, in) {
			at = in.B
		}
	}
}

// jumps executes an instruction, and reports whether it goes elsewhere.
func (f *compiled) jumps(w *world, r []any, in instr.Instruction) bool {
	switch in.Op {
	case instr.Jump:
		return true
	case instr.JumpIf:
		return isTrue(r[in.A])
	case instr.JumpElse:
		return !isTrue(r[in.A])
	case instr.Count:
		n, ok := w.counter(r[in.A], r[in.A+1], r[in.A+2])
		if ok {
			r[in.A+3] = n.now
		}
		return !ok
	case instr.Again:
		n := &counter{r[in.A].(int64), r[in.A+1].(int64), r[in.A+2].(int64)}
		ok := n.again()
		if ok {
			r[in.A], r[in.A+3] = n.now, n.now
		}
		return ok
	case instr.Next:
		var ok bool
		r[in.A+1], r[in.A+2], ok = r[in.A].(*visit).next()
		return !ok
	}
	f.works(w, r, in)
	return false
}

// works executes an instruction that does not jump.
func (f *compiled) works(w *world, r []any, in instr.Instruction) {
	a, b, c := in.A, in.B, in.C
	switch in.Op {
	case instr.Step:
		w.write(aStep, a)
	case instr.Const:
		r[a] = constant(f.Constants[b])
	case instr.Move:
		r[a] = r[b]
	case instr.Share:
		r[a] = &place{r[a]}
	case instr.Fetch:
		r[a] = r[b].(*place).value
	case instr.Store:
		r[a].(*place).value = r[b]
	case instr.FetchTaken:
		r[a] = f.places[b].value
	case instr.StoreTaken:
		f.places[a].value = r[b]
	case instr.MakeFunc:
		w.cells(1)
		r[a] = f.newFunc(r, f.Functions[b])
	case instr.MakeTable:
		r[a] = w.newTable()
	case instr.Visit:
		r[a] = w.visit(r[a])
	case instr.Call:
		r[a] = w.call(r[a], append([]any(nil), r[a+1:a+1+b]...))
	case instr.SetIndex:
		w.setIndex(r[a], r[b], r[c])
	default:
		r[a] = computed(w, in.Op, r[b], r[c])
	}
}

// computed executes an instruction that computes a value of one or two others.
func computed(w *world, op int, a, b any) any {
	switch op {
	case instr.Index:
		return w.index(a, b)
	case instr.Not:
		return w.not(a)
	case instr.Minus:
		return w.minus(a)
	case instr.Len:
		return w.length(a)
	}
	return w.binary(map[int]int{
		instr.Add: api.OpAdd, instr.Sub: api.OpSub, instr.Mul: api.OpMul, instr.Div: api.OpDiv, instr.Mod: api.OpMod, instr.Join: api.OpJoin,
		instr.Same: api.OpSame, instr.Other: api.OpOther, instr.Less: api.OpLess, instr.Most: api.OpMost, instr.More: api.OpMore, instr.Least: api.OpLeast,
	}[op], a, b)
}

// newFunc makes a function of a script within this one.
func (f *compiled) newFunc(r []any, inner instr.Function) *compiled {
	made := &compiled{f.machine, inner, nil}
	for _, t := range inner.Taken {
		if t.IsAgain {
			made.places = append(made.places, f.places[t.At])
		} else {
			made.places = append(made.places, r[t.At].(*place))
		}
	}
	return made
}

func constant(c instr.Constant) any {
	switch c.Kind {
	case api.CellBool:
		return c.N == 1
	case api.CellInt:
		return c.N
	case api.CellText:
		return c.S
	case api.CellFunc:
		return builtin(c.S)
	}
	return nil
}
