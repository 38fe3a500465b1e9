package scope

import "scriptorium/api"

// walker goes over a block in the order of its text. It keeps the first error, and the
// names that are used but come from around the block.
type walker struct {
	names   stack
	err, at int
	outer   []string
	isOuter map[string]struct{}
}

func newWalker() *walker {
	return &walker{
		names:   stack{called: map[string]int{}},
		isOuter: map[string]struct{}{},
	}
}

// fault keeps an error, unless there was one before.
func (w *walker) fault(err, at int) {
	if w.err == api.OK {
		w.err, w.at = err, at
	}
}

// scope goes over a block that is a scope, and in which these names are visible from its
// beginning on.
func (w *walker) scope(kind int, names []string, l []api.Stat) {
	w.names.enter(kind)
	w.names.declare(names)
	w.stats(l)
	w.names.leave()
}

func (w *walker) scopes(kind int, names []string, blocks [][]api.Stat) {
	for _, l := range blocks {
		w.scope(kind, names, l)
	}
}

func (w *walker) stats(l []api.Stat) {
	for _, s := range l {
		w.stat(s)
	}
}

func (w *walker) stat(s api.Stat) {
	switch s.Kind {
	case api.StatLocal:
		w.limit(s)
		w.parts(s)
		w.names.declare(s.Names)
	case api.StatFunc:
		w.limit(s)
		w.names.declare(s.Names)
		w.parts(s)
	case api.StatSet:
		w.target(s)
		w.parts(s)
	case api.StatIf:
		w.cases(s)
	case api.StatWhile:
		w.exps(s.L)
		w.scopes(ofLoop, nil, s.Blocks)
	case api.StatFor, api.StatEach:
		w.limit(s)
		w.exps(s.L)
		w.scopes(ofLoop, s.Names, s.Blocks)
	case api.StatRepeat:
		w.repeat(s)
	case api.StatBreak:
		w.end(s)
		w.parts(s)
	default:
		w.parts(s)
	}
}

// parts goes over all that stands in a statement, also where no parse puts it: what is
// never asked for its names could not be compiled.
func (w *walker) parts(s api.Stat) {
	w.exps(s.L)
	w.scopes(ofBlock, nil, s.Blocks)
}

// limit asks whether there is room for the names of a statement. It is asked before
// anything within the statement, which stands behind it in the text.
func (w *walker) limit(s api.Stat) {
	if w.names.own+len(s.Names) > mostOwn {
		w.fault(api.ErrLimit, s.At)
	}
}

// target asks whether a name that is set is more than a built-in function.
func (w *walker) target(s api.Stat) {
	if len(s.L) == 0 || s.L[0].Kind != api.ExpName {
		return
	}
	if e := s.L[0]; Builtin(e.S) && !w.names.has(e.S) {
		w.fault(api.ErrSource, e.At)
	}
}

// cases goes over conditions and blocks as they take turns in the text.
func (w *walker) cases(s api.Stat) {
	for i := range max(len(s.L), len(s.Blocks)) {
		if i < len(s.L) {
			w.exp(s.L[i])
		}
		if i < len(s.Blocks) {
			w.scope(ofBlock, nil, s.Blocks[i])
		}
	}
}

// repeat goes over a condition within the scope of the block.
func (w *walker) repeat(s api.Stat) {
	w.names.enter(ofLoop)
	for _, l := range s.Blocks {
		w.stats(l)
	}
	w.exps(s.L)
	w.names.leave()
}

// end asks whether there is a loop that a break ends.
func (w *walker) end(s api.Stat) {
	if w.names.loops == 0 {
		w.fault(api.ErrSource, s.At)
	}
}

func (w *walker) exps(l []api.Exp) {
	for _, e := range l {
		w.exp(e)
	}
}

func (w *walker) exp(e api.Exp) {
	if e.Kind == api.ExpName {
		w.use(e)
	}
	w.exps(e.L)
	for _, f := range e.F {
		w.scope(ofFunction, f.Params, f.Body)
	}
}

// use asks where a name comes from.
func (w *walker) use(e api.Exp) {
	if w.names.has(e.S) || Builtin(e.S) {
		return
	}
	w.fault(api.ErrSource, e.At)
	if _, ok := w.isOuter[e.S]; !ok {
		w.isOuter[e.S] = struct{}{}
		w.outer = append(w.outer, e.S)
	}
}
