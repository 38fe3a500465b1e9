package code_test

import (
	"scriptorium/api"
	"scriptorium/scope"
)

// name is a name that has a value, with those that are farther.
type name struct {
	called  string
	value   any
	farther *name
}

func (n *name) find(s string) *name {
	for n != nil && n.called != s {
		n = n.farther
	}
	return n
}

// walked is a function of a script that is executed as chapter 21 says it of the tree.
type walked struct {
	api.Func
	around *name
}

func walkedScript(l []api.Stat) callable {
	return &walked{api.Func{Params: []string{"KEYS", "ARGV"}, Body: l}, nil}
}

func (f *walked) run(w *world, args []any) any {
	n := f.around
	for i, s := range f.Params {
		n = &name{s, argument(args, i), n}
	}
	walk := walk{world: w}
	walk.block(f.Body, n)
	return walk.returned
}

// walk is a run of a function.
type walk struct {
	*world
	hasReturned, hasBroken bool
	returned               any
}

// ends reports whether nothing more of a block is executed.
func (w *walk) ends() bool { return w.hasReturned || w.hasBroken }

// block executes statements, and returns the names that are visible at the end.
func (w *walk) block(l []api.Stat, n *name) *name {
	for _, s := range l {
		if w.ends() {
			break
		}
		n = w.stat(s, n)
	}
	return n
}

func (w *walk) stat(s api.Stat, n *name) *name {
	w.step()
	switch s.Kind {
	case api.StatLocal:
		return &name{s.Names[0], w.maybe(s.L, n), n}
	case api.StatFunc:
		n = &name{s.Names[0], nil, n}
		n.value = w.exp(s.L[0], n)
		return n
	case api.StatSet:
		w.set(s.L[0], s.L[1], n)
	case api.StatCall:
		w.exp(s.L[0], n)
	case api.StatIf:
		w.cases(s, n)
	case api.StatDo:
		w.block(s.Blocks[0], n)
	case api.StatBreak:
		w.hasBroken = true
	case api.StatReturn:
		w.returned = w.maybe(s.L, n)
		w.hasReturned = true
	default:
		w.loop(s, n)
		w.hasBroken = false
	}
	return n
}

func (w *walk) maybe(l []api.Exp, n *name) any {
	if len(l) == 0 {
		return nil
	}
	return w.exp(l[0], n)
}

func (w *walk) set(target, value api.Exp, n *name) {
	if target.Kind == api.ExpName {
		v := w.exp(value, n)
		n.find(target.S).value = v
		return
	}
	l := w.exps(append(target.L[:2:2], value), n)
	w.setIndex(l[0], l[1], l[2])
}

func (w *walk) cases(s api.Stat, n *name) {
	for i, condition := range s.L {
		if isTrue(w.exp(condition, n)) {
			w.block(s.Blocks[i], n)
			return
		}
	}
	if len(s.Blocks) > len(s.L) {
		w.block(s.Blocks[len(s.L)], n)
	}
}

func (w *walk) loop(s api.Stat, n *name) {
	switch s.Kind {
	case api.StatWhile:
		for !w.ends() && isTrue(w.exp(s.L[0], n)) {
			w.turn(s, n)
		}
	case api.StatRepeat:
		for {
			inner := w.turn(s, n)
			if w.ends() || isTrue(w.exp(s.L[0], inner)) {
				return
			}
		}
	case api.StatFor:
		l := append(w.exps(s.L, n), int64(1))
		c, ok := w.counter(l[0], l[1], l[2])
		for ; ok && !w.ends(); ok = c.again() {
			w.turn(s, &name{s.Names[0], c.now, n})
		}
	case api.StatEach:
		v := w.visit(w.exp(s.L[0], n))
		for !w.ends() {
			key, value, ok := v.next()
			if !ok {
				return
			}
			w.turn(s, &name{s.Names[1], value, &name{s.Names[0], key, n}})
		}
	}
}

func (w *walk) turn(s api.Stat, n *name) *name {
	w.step()
	return w.block(s.Blocks[0], n)
}

func (w *walk) exps(l []api.Exp, n *name) (values []any) {
	for _, e := range l {
		values = append(values, w.exp(e, n))
	}
	return values
}

func (w *walk) exp(e api.Exp, n *name) any {
	w.step()
	switch e.Kind {
	case api.ExpNil:
		return nil
	case api.ExpTrue, api.ExpFalse:
		return e.Kind == api.ExpTrue
	case api.ExpInt:
		return e.N
	case api.ExpString:
		return e.S
	case api.ExpName:
		return valueOf(e.S, n)
	case api.ExpFunc:
		w.cells(1)
		return &walked{e.F[0], n}
	case api.ExpTable:
		return w.table(e, n)
	case api.ExpAnd, api.ExpOr:
		v := w.exp(e.L[0], n)
		if isTrue(v) == (e.Kind == api.ExpAnd) {
			v = w.exp(e.L[1], n)
		}
		return v
	}
	l := w.exps(e.L, n)
	switch e.Kind {
	case api.ExpIndex:
		return w.index(l[0], l[1])
	case api.ExpCall:
		return w.call(l[0], l[1:])
	case api.ExpNot:
		return w.not(l[0])
	case api.ExpMinus:
		return w.minus(l[0])
	case api.ExpLen:
		return w.length(l[0])
	case api.ExpBinary:
		return w.binary(e.Op, l[0], l[1])
	}
	panic("no parse returns this expression")
}

func valueOf(s string, n *name) any {
	if v := n.find(s); v != nil {
		return v.value
	}
	if scope.Builtin(s) {
		return builtin(s)
	}
	panic(s + " is not visible")
}

func (w *walk) table(e api.Exp, n *name) any {
	t := w.newTable()
	for i := 0; i < len(e.L); i += 2 {
		var key any
		switch k := e.L[i]; {
		case k.Op == 1 && k.Kind == api.ExpInt:
			key = k.N
		case k.Op == 1 && k.Kind == api.ExpString:
			key = k.S
		default:
			key = w.exp(k, n)
		}
		w.setIndex(t, key, w.exp(e.L[i+1], n))
	}
	return t
}
