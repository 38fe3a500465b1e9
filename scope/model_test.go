package scope_test

import (
	"slices"

	"scriptorium/api"
	"scriptorium/scope"
)

// model tells what the document says of a block by the times at which names are visible.
// A time goes by with each thing in the order of the text.
type model struct {
	now      int
	function int // its number
	loops    []int
	nextFunc int
	declared []*declared
	used     []used
	faults   []fault
}

// declared is a name that is visible between two times.
type declared struct {
	name     *string
	from, to int
	function int
	noRoom   fault // none for a parameter
}

type used struct {
	exp  *api.Exp
	time int
	set  bool
}

// fault is something wrong, and a change by which it isn't wrong any more.
type fault struct {
	time, err, at int
	mend          func()
}

// newModel reads a script, or the block of a function.
func newModel(f *api.Func, isScript bool) *model {
	m := &model{}
	if isScript {
		f = &api.Func{Params: []string{"KEYS", "ARGV"}, Body: f.Body}
	}
	m.read(f)
	return m
}

func (m *model) tick() int {
	m.now++
	return m.now
}

// declare makes names visible from now on, and returns what ends this.
func (m *model) declare(l []string, f fault) func() {
	first := len(m.declared)
	for i := range l {
		m.declared = append(m.declared, &declared{&l[i], m.tick(), 1 << 60, m.function, f})
	}
	mine := m.declared[first:]
	return func() {
		end := m.tick()
		for _, d := range mine {
			d.to = end
		}
	}
}

func (m *model) read(f *api.Func) {
	function, loops := m.function, m.loops
	m.nextFunc++
	m.function, m.loops = m.nextFunc, nil
	end := m.declare(f.Params, fault{})
	m.block(f.Body, nil)
	end()
	m.function, m.loops = function, loops
}

// block reads statements; what is before its end still sees their names.
func (m *model) block(l []api.Stat, before func()) {
	var ends []func()
	for i := range l {
		ends = append(ends, m.stat(&l[i]))
	}
	if before != nil {
		before()
	}
	for _, end := range ends {
		end()
	}
}

// loop reads the block of a loop.
func (m *model) loop(s *api.Stat, names []string, f fault, before func()) {
	m.loops = append(m.loops, 1)
	end := m.declare(names, f)
	m.block(s.Blocks[0], before)
	end()
	m.loops = m.loops[:len(m.loops)-1]
}

// doOf makes a statement without names of one that has some, or of a break.
func doOf(s *api.Stat) api.Stat {
	return api.Stat{Kind: api.StatDo, At: s.At, Blocks: append(s.Blocks, nil)[:1]}
}

// stat reads a statement, and returns what ends its names.
func (m *model) stat(s *api.Stat) func() {
	time := m.tick()
	limit := fault{time, api.ErrLimit, s.At, func() { *s = doOf(s) }}
	switch s.Kind {
	case api.StatFunc:
		end := m.declare(s.Names, limit)
		m.exps(s.L)
		return end
	case api.StatLocal:
		m.exps(s.L)
		return m.declare(s.Names, limit)
	case api.StatSet:
		first := len(m.used)
		m.exps(s.L)
		if s.L[0].Kind == api.ExpName {
			m.used[first].set = true
		}
	case api.StatIf:
		for i := range s.Blocks {
			m.exps(s.L[min(i, len(s.L)):min(i+1, len(s.L))])
			m.block(s.Blocks[i], nil)
		}
	case api.StatRepeat:
		m.loop(s, nil, fault{}, func() { m.exps(s.L) })
	case api.StatWhile:
		m.exps(s.L)
		m.loop(s, nil, fault{}, nil)
	case api.StatFor, api.StatEach:
		m.exps(s.L)
		m.loop(s, s.Names, limit, nil)
	case api.StatBreak:
		if len(m.loops) == 0 {
			m.faults = append(m.faults, fault{time, api.ErrSource, s.At, func() { *s = doOf(s) }})
		}
	case api.StatDo:
		m.block(s.Blocks[0], nil)
	case api.StatCall, api.StatReturn:
		m.exps(s.L)
	}
	return func() {}
}

func (m *model) exps(l []api.Exp) {
	for i := range l {
		e := &l[i]
		time := m.tick()
		if e.Kind == api.ExpName {
			m.used = append(m.used, used{e, time, false})
		}
		m.exps(e.L)
		for j := range e.F {
			m.read(&e.F[j])
		}
	}
}

// nearest returns what a name that is used was declared by, or nil: of all that are called
// so and visible, the one that was declared last.
func (m *model) nearest(u used) *declared {
	var best *declared
	for _, d := range m.declared {
		if *d.name == u.exp.S && d.from < u.time && u.time < d.to {
			best = d
		}
	}
	return best
}

// own returns how many names the function of a declared one has when it is visible.
func (m *model) own(d *declared) int {
	n := 0
	for _, other := range m.declared {
		if other.function == d.function && other.from <= d.from && d.from < other.to {
			n++
		}
	}
	return n
}

// check returns the first fault.
func (m *model) check() fault {
	all := slices.Clone(m.faults)
	for _, d := range m.declared {
		if d.noRoom.err != api.OK && m.own(d) > 150 {
			all = append(all, d.noRoom)
		}
	}
	for _, u := range m.used {
		if m.nearest(u) == nil && (u.set || !scope.Builtin(u.exp.S)) {
			all = append(all, fault{u.time, api.ErrSource, u.exp.At, func() { u.exp.S = "ARGV" }})
			break
		}
	}
	if len(all) == 0 {
		return fault{}
	}
	return slices.MinFunc(all, func(a, b fault) int { return a.time - b.time })
}

// outer returns the names that come from around.
func (m *model) outer() (l []string) {
	for _, u := range m.used {
		if m.nearest(u) == nil && !scope.Builtin(u.exp.S) && !slices.Contains(l, u.exp.S) {
			l = append(l, u.exp.S)
		}
	}
	return l
}
