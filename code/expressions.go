package code

import (
	"scriptorium/api"
	"scriptorium/instr"
	"scriptorium/scope"
)

// operand computes an expression, and returns the register of its value: a new one, or,
// since no expression changes a name that is not shared, the one of such a name.
func (f *function) operand(e api.Exp) int {
	if e.Kind == api.ExpName {
		if v := f.find(e.S); v != nil && v.home == f && !v.isShared {
			f.steps++
			return v.register
		}
	}
	return f.exp(e)
}

// exp computes an expression in a new register, the last one that is used then.
func (f *function) exp(e api.Exp) int {
	to := f.free
	f.steps++
	switch e.Kind {
	case api.ExpName:
		f.name(e.S)
	case api.ExpFunc:
		f.emit(instr.MakeFunc, to, f.compile(f, part(e.F, 0)))
	case api.ExpTable:
		f.table(e)
	case api.ExpCall:
		f.call(e)
	case api.ExpAnd:
		f.either(instr.JumpElse, e)
	case api.ExpOr:
		f.either(instr.JumpIf, e)
	default:
		f.compute(e)
	}
	f.free = to
	return f.take()
}

// literal returns the constant that an expression denotes: nil, if it is none.
func literal(e api.Exp) instr.Constant {
	switch e.Kind {
	case api.ExpTrue:
		return instr.Constant{Kind: api.CellBool, N: 1}
	case api.ExpFalse:
		return instr.Constant{Kind: api.CellBool}
	case api.ExpInt:
		return instr.Constant{Kind: api.CellInt, N: e.N}
	case api.ExpString:
		return instr.Constant{Kind: api.CellText, S: e.S}
	}
	return instr.Constant{}
}

// name computes the value of a name.
func (f *function) name(s string) {
	if v := f.find(s); v != nil {
		f.fetch(f.free, v)
		return
	}
	var c instr.Constant
	if scope.Builtin(s) {
		c = instr.Constant{Kind: api.CellFunc, S: s}
	}
	f.constant(c)
}

// table computes a table with its fields.
func (f *function) table(e api.Exp) {
	t := f.take()
	f.emit(instr.MakeTable, t)
	for i := 0; i < len(e.L); i += 2 {
		key := f.key(e.L[i])
		value := f.operand(part(e.L, i+1))
		f.emit(instr.SetIndex, t, key, value)
		f.free = t + 1
	}
}

// key computes the key of a field. One without brackets takes no step.
func (f *function) key(e api.Exp) int {
	if e.Op == 1 && (e.Kind == api.ExpInt || e.Kind == api.ExpString) {
		return f.constant(literal(e))
	}
	return f.operand(e)
}

// call computes what is called and the arguments, one behind another, and calls it.
func (f *function) call(e api.Exp) {
	to := f.exp(part(e.L, 0))
	for _, argument := range e.L[min(1, len(e.L)):] {
		f.exp(argument)
	}
	f.emit(instr.Call, to, f.free-to-1)
}

// either computes the first part, and the second one unless the jump leaves it out.
func (f *function) either(jump int, e api.Exp) {
	to := f.exp(part(e.L, 0))
	decided := f.jump(jump, to)
	f.free = to
	f.exp(part(e.L, 1))
	decided()
}

// compute computes an expression by one instruction, whose operands are its parts. One
// without parts is a constant.
func (f *function) compute(e api.Exp) {
	op, parts := operation(e)
	if parts == 0 {
		f.constant(literal(e))
		return
	}
	l := []int{f.free}
	for i := range parts {
		l = append(l, f.operand(part(e.L, i)))
	}
	f.emit(op, l...)
}

// operation returns the instruction that computes an expression, and how many parts this
// has.
func operation(e api.Exp) (op, parts int) {
	switch e.Kind {
	case api.ExpIndex:
		return instr.Index, 2
	case api.ExpNot:
		return instr.Not, 1
	case api.ExpMinus:
		return instr.Minus, 1
	case api.ExpLen:
		return instr.Len, 1
	case api.ExpBinary:
		if api.OpAdd <= e.Op && e.Op <= api.OpLeast {
			return instr.Add + e.Op - api.OpAdd, 2
		}
	}
	return 0, 0
}
