package code

import (
	"scriptorium/api"
	"scriptorium/instr"
	"scriptorium/scope"
)

// Check reports whether a Proto is well-formed.
func Check(p *Proto) bool {
	if p == nil || len(p.Functions) == 0 || !isScript(p.Functions[0]) {
		return false
	}
	for _, c := range p.Constants {
		if !isConstant(c) {
			return false
		}
	}
	for i := range p.Functions {
		if !p.isFunction(i) {
			return false
		}
	}
	return true
}

// isScript reports whether f has the arguments of a script, and nothing from around it.
func isScript(f instr.Function) bool {
	return f.Within == 0 && f.Params == len(arguments()) && len(f.Taken) == 0
}

func isConstant(c instr.Constant) bool {
	switch c.Kind {
	case api.CellNil, api.CellInt, api.CellText:
		return true
	case api.CellBool:
		return c.N == 0 || c.N == 1
	case api.CellFunc:
		return scope.Builtin(c.S)
	}
	return false
}

// isFunction reports whether a function is well-formed.
func (p *Proto) isFunction(i int) bool {
	f := p.Functions[i]
	if f.Params < 0 || f.Params > f.Registers || i > 0 && !isBelow(f.Within, i) {
		return false
	}
	for _, t := range f.Taken {
		if !isTaken(p.Functions[f.Within], t) {
			return false
		}
	}
	for _, in := range f.Code {
		if !p.isInstruction(i, in) {
			return false
		}
	}
	return len(f.Code) > 0 && f.Code[len(f.Code)-1].Op == instr.Return
}

// isTaken reports whether there is such a place for a function within f.
func isTaken(f instr.Function, t instr.Taken) bool {
	if t.IsAgain {
		return isBelow(t.At, len(f.Taken))
	}
	return isBelow(t.At, f.Registers)
}

// isInstruction reports whether there is such an instruction, and all that it works on.
func (p *Proto) isInstruction(i int, in instr.Instruction) bool {
	kinds, ok := instr.Operands(in.Op)
	return ok && p.isOperand(i, kinds[0], in.A, in) && p.isOperand(i, kinds[1], in.B, in) && p.isOperand(i, kinds[2], in.C, in)
}

// isOperand reports whether what an operand of an instruction names exists.
func (p *Proto) isOperand(i, kind, n int, in instr.Instruction) bool {
	f := p.Functions[i]
	switch kind {
	case instr.Number:
		return n > 0
	case instr.Arguments:
		return isBelow(n, f.Registers-in.A)
	case instr.Register:
		return isBelow(n, f.Registers)
	case instr.Register3:
		return isBelow(n, f.Registers-2)
	case instr.Register4:
		return isBelow(n, f.Registers-3)
	case instr.OfConst:
		return isBelow(n, len(p.Constants))
	case instr.OfFunc:
		return n > 0 && isBelow(n, len(p.Functions)) && p.Functions[n].Within == i
	case instr.OfTaken:
		return isBelow(n, len(f.Taken))
	case instr.OfCode:
		return isBelow(n, len(f.Code))
	}
	return true
}

func isBelow(n, end int) bool {
	return 0 <= n && n < end
}
