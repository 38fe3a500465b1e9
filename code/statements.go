package code

import (
	"scriptorium/api"
	"scriptorium/instr"
)

// block compiles a block with names of its own.
func (f *function) block(l []api.Stat) {
	m := f.enter()
	f.stats(l)
	f.leave(m)
}

func (f *function) stats(l []api.Stat) {
	for _, s := range l {
		f.steps++
		f.stat(s)
	}
}

// stat compiles a statement. No register is used behind it but those of names that it
// declares.
func (f *function) stat(s api.Stat) {
	switch s.Kind {
	case api.StatLocal:
		f.local(s)
	case api.StatFunc:
		f.localFunction(s)
	default:
		free := f.free
		f.other(s)
		f.free = free
	}
}

// other compiles a statement that declares no names behind it.
func (f *function) other(s api.Stat) {
	switch s.Kind {
	case api.StatSet:
		f.set(part(s.L, 0), part(s.L, 1))
	case api.StatCall:
		f.exp(part(s.L, 0))
	case api.StatIf:
		f.cases(s)
	case api.StatWhile:
		f.while(s)
	case api.StatFor:
		f.count(s)
	case api.StatEach:
		f.each(s)
	case api.StatRepeat:
		f.repeat(s)
	case api.StatBreak:
		f.leaveLoop()
	case api.StatReturn:
		f.result(s)
	case api.StatDo:
		f.block(part(s.Blocks, 0))
	}
}

// local computes a value in the register that the name takes then.
func (f *function) local(s api.Stat) {
	free := f.free
	if len(s.L) > 0 {
		f.exp(s.L[0])
	} else {
		f.constant(instr.Constant{})
	}
	f.free = free
	f.declare([]string{part(s.Names, 0)})
}

// localFunction declares a name, which is nil, ahead of its function, which sees it.
func (f *function) localFunction(s api.Stat) {
	name := part(s.Names, 0)
	f.local(api.Stat{Names: []string{name}})
	free := f.free
	f.store(f.find(name), f.exp(part(s.L, 0)))
	f.free = free
}

func (f *function) set(target, value api.Exp) {
	switch target.Kind {
	case api.ExpIndex:
		table := f.operand(part(target.L, 0))
		key := f.operand(part(target.L, 1))
		f.emit(instr.SetIndex, table, key, f.operand(value))
	case api.ExpName:
		from := f.operand(value)
		if v := f.find(target.S); v != nil {
			f.store(v, from)
		}
	}
}

func (f *function) result(s api.Stat) {
	if len(s.L) > 0 {
		f.emit(instr.Return, f.operand(s.L[0]))
	} else {
		f.emit(instr.Return, f.constant(instr.Constant{}))
	}
}

func (f *function) cases(s api.Stat) {
	var ends []func()
	for i, condition := range s.L {
		next := f.unless(condition)
		f.block(part(s.Blocks, i))
		if i+1 < len(s.Blocks) {
			ends = append(ends, f.jump(instr.Jump, 0))
		}
		next()
	}
	f.block(part(s.Blocks, len(s.L)))
	for _, end := range ends {
		end()
	}
}

// unless jumps if a condition is not true.
func (f *function) unless(condition api.Exp) func() {
	free := f.free
	to := f.jump(instr.JumpElse, f.operand(condition))
	f.free = free
	return to
}

func (f *function) while(s api.Stat) {
	f.enterLoop()
	top := f.here()
	end := f.unless(part(s.L, 0))
	f.turn(nil, s)
	f.emit(instr.Jump, 0, top)
	end()
	f.endLoop()
}

// count compiles a StatFor. Behind the three numbers is the register of the name.
func (f *function) count(s api.Stat) {
	first := f.exp(part(s.L, 0))
	f.exp(part(s.L, 1))
	if len(s.L) > 2 {
		f.exp(s.L[2])
	} else {
		f.constant(instr.Constant{Kind: api.CellInt, N: 1})
	}
	f.enterLoop()
	end := f.jump(instr.Count, first)
	top := f.here()
	f.turn([]string{part(s.Names, 0)}, s)
	f.emit(instr.Again, first, top)
	end()
	f.endLoop()
}

// each compiles a StatEach. Behind the table are the registers of both names.
func (f *function) each(s api.Stat) {
	first := f.exp(part(s.L, 0))
	f.emit(instr.Visit, first)
	f.enterLoop()
	top := f.here()
	end := f.jump(instr.Next, first)
	f.turn([]string{part(s.Names, 0), part(s.Names, 1)}, s)
	f.emit(instr.Jump, 0, top)
	end()
	f.endLoop()
}

// turn compiles the block of a loop, in which these names are visible.
func (f *function) turn(names []string, s api.Stat) {
	m := f.enter()
	f.steps++
	f.declare(names)
	f.stats(part(s.Blocks, 0))
	f.leave(m)
}

// repeat compiles a condition that sees the names of the block.
func (f *function) repeat(s api.Stat) {
	f.enterLoop()
	top := f.here()
	m := f.enter()
	f.steps++
	f.stats(part(s.Blocks, 0))
	f.emit(instr.JumpElse, f.operand(part(s.L, 0)), top)
	f.leave(m)
	f.endLoop()
}

func (f *function) enterLoop() {
	f.breaks = append(f.breaks, nil)
}

// endLoop lets the breaks of the innermost loop go to here.
func (f *function) endLoop() {
	last := len(f.breaks) - 1
	for _, to := range f.breaks[last] {
		to()
	}
	f.breaks = f.breaks[:last]
}

// leaveLoop compiles a break. There is a loop, since scope.Check asks for one.
func (f *function) leaveLoop() {
	last := len(f.breaks) - 1
	f.breaks[last] = append(f.breaks[last], f.jump(instr.Jump, 0))
}
