package code

import "scriptorium/instr"

// variable is a name that is declared.
type variable struct {
	name     string
	number   int // how many were declared before
	home     *function
	register int
	isShared bool // the register holds the place of its value
}

// mark is how much of a function is visible and used.
type mark struct{ own, free int }

func (f *function) enter() mark {
	return mark{len(f.own), f.free}
}

// leave ends all names that were declared since, and frees all registers.
func (f *function) leave(m mark) {
	for _, v := range f.own[m.own:] {
		same := f.visible[v.name]
		f.visible[v.name] = same[:len(same)-1]
	}
	f.own, f.free = f.own[:m.own], m.free
}

// declare makes names visible. Their values are in the registers that are taken next.
func (f *function) declare(names []string) {
	for _, name := range names {
		v := &variable{name: name, number: len(f.isTaken), home: f, register: f.take()}
		v.isShared = part(f.isShared, v.number)
		if v.isShared {
			f.emit(instr.Share, v.register)
		}
		f.isTaken = append(f.isTaken, false)
		f.own = append(f.own, v)
		f.visible[name] = append(f.visible[name], v)
	}
}

// find returns the variable that a name is, or nil.
func (c *compiler) find(name string) *variable {
	same := c.visible[name]
	if len(same) == 0 {
		return nil
	}
	return same[len(same)-1]
}

// fetch computes the value of a variable in a register.
func (f *function) fetch(to int, v *variable) {
	switch {
	case v.home != f:
		f.emit(instr.FetchTaken, to, f.takeOf(v))
	case v.isShared:
		f.emit(instr.Fetch, to, v.register)
	default:
		f.emit(instr.Move, to, v.register)
	}
}

// store gives a variable the value of a register.
func (f *function) store(v *variable, from int) {
	switch {
	case v.home != f:
		f.emit(instr.StoreTaken, f.takeOf(v), from)
	case v.isShared:
		f.emit(instr.Store, v.register, from)
	default:
		f.emit(instr.Move, v.register, from)
	}
}

// takeOf returns where the place of a variable of a function around this one is among
// those that are taken. All functions in between take it, too.
func (f *function) takeOf(v *variable) int {
	if i, ok := f.takes[v.number]; ok {
		return i
	}
	t := instr.Taken{At: v.register}
	if f.around != v.home {
		t = instr.Taken{IsAgain: true, At: f.around.takeOf(v)}
	}
	f.isTaken[v.number] = true
	f.takes[v.number] = len(f.taken)
	f.taken = append(f.taken, t)
	return f.takes[v.number]
}
