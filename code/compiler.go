package code

import (
	"strings"

	"scriptorium/api"
	"scriptorium/instr"
)

// compiler compiles a script.
type compiler struct {
	proto    *Proto
	places   map[instr.Constant]int // of the constants
	visible  map[string][]*variable // those that are called so, the nearest one last
	isTaken  []bool                 // of each variable: whether a function took it from around so far
	isShared []bool                 // of each variable: whether functions take it
}

// function is one that is being compiled.
type function struct {
	*compiler
	around *function
	index  int
	code   []instr.Instruction
	steps  int         // those that begin in front of the next instruction
	free   int         // the first register that is not used
	most   int         // how many registers were used at a time
	own    []*variable // which are visible
	taken  []instr.Taken
	takes  map[int]int // where the place of a variable is among those that are taken
	breaks [][]func()  // of each loop that is open: what lets them go to its end
}

// arguments returns the names of what a script is given.
func arguments() []string {
	return []string{"KEYS", "ARGV"}
}

// compiled compiles a script whose variables are shared or not.
func compiled(l []api.Stat, isShared []bool) *compiler {
	c := &compiler{
		proto:    &Proto{},
		places:   map[instr.Constant]int{},
		visible:  map[string][]*variable{},
		isShared: isShared,
	}
	c.compile(nil, api.Func{Params: arguments(), Body: l})
	return c
}

// compile compiles a function, and returns its index in the Proto.
func (c *compiler) compile(around *function, source api.Func) int {
	f := &function{compiler: c, around: around, index: len(c.proto.Functions), takes: map[int]int{}}
	c.proto.Functions = append(c.proto.Functions, instr.Function{})
	f.declare(source.Params)
	f.stats(source.Body)
	if last := len(source.Body) - 1; last < 0 || source.Body[last].Kind != api.StatReturn {
		f.emit(instr.Return, f.constant(instr.Constant{}))
	}
	f.leave(mark{})
	made := instr.Function{Params: len(source.Params), Registers: f.most, Taken: f.taken, Code: f.code}
	if around != nil {
		made.Within = around.index
	}
	c.proto.Functions[f.index] = made
	return f.index
}

// emit adds an instruction, behind the steps that begin in front of it.
func (f *function) emit(op int, operands ...int) {
	f.settle()
	var l [3]int
	copy(l[:], operands)
	f.code = append(f.code, instr.Instruction{Op: op, A: l[0], B: l[1], C: l[2]})
}

// settle adds the steps that begin in front of the next instruction.
func (f *function) settle() {
	if f.steps > 0 {
		f.code = append(f.code, instr.Instruction{Op: instr.Step, A: f.steps})
		f.steps = 0
	}
}

// here returns where the next instruction is, to which jumps may go. The steps that begin
// in front of it are not taken by those who jump.
func (f *function) here() int {
	f.settle()
	return len(f.code)
}

// jump adds a jump whose target is not known yet, and returns what lets it go to the
// next instruction.
func (f *function) jump(op, a int) func() {
	f.emit(op, a)
	at := len(f.code) - 1
	return func() {
		f.code[at].B = f.here()
	}
}

// take returns a register that is not used.
func (f *function) take() int {
	f.free++
	f.most = max(f.most, f.free)
	return f.free - 1
}

// constant computes a constant in a new register.
func (f *function) constant(c instr.Constant) int {
	to := f.take()
	f.emit(instr.Const, to, f.place(c))
	return to
}

// place returns where a constant is in the Proto.
func (c *compiler) place(x instr.Constant) int {
	if i, ok := c.places[x]; ok {
		return i
	}
	x.S = strings.Clone(x.S)
	c.places[x] = len(c.proto.Constants)
	c.proto.Constants = append(c.proto.Constants, x)
	return c.places[x]
}

// part returns an element of l, or nothing, where no parse leaves it out.
func part[T any](l []T, i int) T {
	var none T
	if i < len(l) {
		return l[i]
	}
	return none
}
