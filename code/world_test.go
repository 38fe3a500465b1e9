package code_test

import (
	"cmp"
	"slices"
	"strconv"
	"strings"

	"scriptorium/api"
	"scriptorium/ints"
)

// world is what a script runs in, whoever executes it (chapter 21). What can be seen of
// the run is written down: steps, cells, calls of the host and what comes of them.
type world struct {
	log   []string
	most  int // so many entries of the log there may be
	deep  int
	hosts int // how often the host has been called
}

// What a world writes down.
const (
	aStep = "step"
	aCell = "cell"
)

// thrown is an error of a script, stopped the end of a run.
type (
	thrown  struct{ value any }
	stopped struct{}
)

// Values are nil, bool, int64, string, *table, builtin and callable.
type (
	builtin  string
	callable interface {
		run(w *world, args []any) any
	}
	table struct {
		keys   []any
		values map[any]any
	}
)

func (w *world) write(entry string, n int) {
	for range n {
		if len(w.log) >= w.most {
			panic(stopped{})
		}
		w.log = append(w.log, entry)
	}
}

func (w *world) step()       { w.write(aStep, 1) }
func (w *world) cells(n int) { w.write(aCell, n) }

func fail(number int) {
	panic(thrown{"E" + strconv.Itoa(number)})
}

func isTrue(v any) bool {
	return v != nil && v != false
}

func (w *world) newTable() *table {
	w.cells(1)
	return &table{values: map[any]any{}}
}

func (t *table) border() int64 {
	n := int64(0)
	for t.values[n+1] != nil {
		n++
	}
	return n
}

func isKey(v any) bool {
	switch v.(type) {
	case bool, int64, string:
		return true
	}
	return false
}

func (w *world) index(t, key any) any {
	l, ok := t.(*table)
	if !ok {
		fail(2)
	}
	if !isKey(key) {
		return nil
	}
	return l.values[key]
}

func (w *world) setIndex(t, key, value any) {
	l, ok := t.(*table)
	if !ok {
		fail(2)
	}
	if !isKey(key) {
		fail(6)
	}
	if value == nil {
		delete(l.values, key)
		l.keys = slices.DeleteFunc(l.keys, func(k any) bool { return k == key })
		return
	}
	if l.values[key] == nil {
		w.cells(1)
		l.keys = append(l.keys, key)
	}
	l.values[key] = value
}

func (w *world) not(v any) any { return !isTrue(v) }

func (w *world) minus(v any) any { return w.binary(api.OpSub, int64(0), v) }

func (w *world) length(v any) any {
	switch x := v.(type) {
	case string:
		return int64(len(x))
	case *table:
		return x.border()
	}
	fail(3)
	return nil
}

func (w *world) binary(op int, a, b any) any {
	switch op {
	case api.OpAdd, api.OpSub, api.OpMul, api.OpDiv, api.OpMod:
		return arithmetic(op, a, b)
	case api.OpJoin:
		return w.join(a, b)
	case api.OpSame:
		return a == b
	case api.OpOther:
		return a != b
	}
	return compare(op, a, b)
}

func arithmetic(op int, x, y any) any {
	a, ok := x.(int64)
	b, ok2 := y.(int64)
	if !ok || !ok2 {
		fail(3)
	}
	n, fits := number(op, a, b)
	if !fits {
		fail(4)
	}
	return n
}

func number(op int, a, b int64) (int64, bool) {
	switch op {
	case api.OpAdd:
		return ints.Add(a, b)
	case api.OpSub:
		return ints.Sub(a, b)
	case api.OpMul:
		return ints.Mul(a, b)
	case api.OpDiv:
		return ints.Div(a, b)
	}
	return ints.Mod(a, b)
}

func (w *world) join(a, b any) any {
	s := text(a, 3) + text(b, 3)
	if len(s) > api.MaxText {
		fail(8)
	}
	return w.made(s)
}

// made counts the cells of a string that is made.
func (w *world) made(s string) string {
	w.cells(1 + len(s)/16)
	return s
}

// text is a string, or the digits of an integer.
func text(v any, number int) string {
	switch x := v.(type) {
	case string:
		return x
	case int64:
		return strconv.FormatInt(x, 10)
	}
	fail(number)
	return ""
}

func compare(op int, x, y any) any {
	var c int
	switch a := x.(type) {
	case int64:
		b, ok := y.(int64)
		if !ok {
			fail(5)
		}
		c = cmp.Compare(a, b)
	case string:
		b, ok := y.(string)
		if !ok {
			fail(5)
		}
		c = strings.Compare(a, b)
	default:
		fail(5)
	}
	return map[int]bool{api.OpLess: c < 0, api.OpMost: c <= 0, api.OpMore: c > 0, api.OpLeast: c >= 0}[op]
}

// counter is a StatFor.
type counter struct{ now, last, step int64 }

func (w *world) counter(first, last, step any) (*counter, bool) {
	a, ok := first.(int64)
	b, ok2 := last.(int64)
	c, ok3 := step.(int64)
	if !ok || !ok2 || !ok3 {
		fail(3)
	}
	if c == 0 {
		fail(4)
	}
	n := &counter{a, b, c}
	return n, n.isTurn()
}

func (n *counter) isTurn() bool {
	return n.step > 0 && n.now <= n.last || n.step < 0 && n.now >= n.last
}

func (n *counter) again() bool {
	next, fits := number(api.OpAdd, n.now, n.step)
	n.now = next
	return fits && n.isTurn()
}

// visit is a StatEach.
type visit struct {
	of   *table
	keys []any
}

func (w *world) visit(t any) *visit {
	of, ok := t.(*table)
	if !ok {
		fail(2)
	}
	return &visit{of, slices.Clone(of.keys)}
}

func (v *visit) next() (key, value any, ok bool) {
	for len(v.keys) > 0 {
		key, v.keys = v.keys[0], v.keys[1:]
		if value := v.of.values[key]; value != nil {
			return key, value, true
		}
	}
	return nil, nil, false
}

func (w *world) call(f any, args []any) any {
	switch x := f.(type) {
	case builtin:
		return w.builtin(string(x), args)
	case callable:
		if w.deep == api.MaxDeep {
			fail(7)
		}
		w.deep++
		v := x.run(w, args)
		w.deep--
		return v
	}
	fail(1)
	return nil
}

func argument(args []any, i int) any {
	if i < len(args) {
		return args[i]
	}
	return nil
}

func (w *world) builtin(name string, args []any) any {
	first, second := argument(args, 0), argument(args, 1)
	switch name {
	case "error":
		panic(thrown{first})
	case "pcall":
		return w.outcome(w.try(func() any { return w.call(first, args[min(1, len(args)):]) }))
	case "call":
		return w.host(args)
	case "type":
		return kindOf(first)
	}
	t, ok := first.(*table)
	if !ok {
		fail(9)
	}
	switch name {
	case "insert":
		w.setIndex(t, t.border()+1, second)
		return nil
	case "remove":
		n := t.border()
		v := t.values[n]
		if n > 0 {
			w.setIndex(t, n, nil)
		}
		return v
	case "keys":
		w.cells(1 + len(t.keys))
		return list(t.keys)
	}
	fail(9)
	return nil
}

// list is a table whose cells are counted already.
func list(l []any) *table {
	t := &table{values: map[any]any{}}
	for i, v := range l {
		t.keys = append(t.keys, int64(i+1))
		t.values[int64(i+1)] = v
	}
	return t
}

func kindOf(v any) any {
	switch v.(type) {
	case nil:
		return "nil"
	case bool:
		return "bool"
	case int64:
		return "int"
	case string:
		return "text"
	case *table:
		return "table"
	}
	return "function"
}

// try returns what a call returns, or what is thrown in it.
func (w *world) try(call func() any) (v any, ok bool) {
	deep := w.deep
	defer func() {
		r := recover()
		if r == nil {
			return
		}
		x, isThrown := r.(thrown)
		if !isThrown {
			panic(r)
		}
		v, ok, w.deep = x.value, false, deep
	}()
	return call(), true
}

// outcome is the table that pcall and resume return.
func (w *world) outcome(v any, ok bool) any {
	n := 2
	if v != nil {
		n++
	}
	w.cells(n)
	t := &table{keys: []any{"ok"}, values: map[any]any{"ok": ok}}
	if v != nil {
		t.keys, t.values["value"] = append(t.keys, "value"), v
	}
	return t
}

// host answers in turn with numbers, texts, tables, nil and errors.
func (w *world) host(args []any) any {
	if len(args) == 0 {
		fail(9)
	}
	entry := "call"
	for _, a := range args {
		entry += " " + text(a, 9)
	}
	w.write(entry, 1)
	w.hosts++
	switch n := w.hosts % 7; n {
	case 1, 2, 3:
		return int64(w.hosts - 4)
	case 4:
		return w.made("answer")
	case 5:
		w.cells(3)
		return list([]any{int64(w.hosts), "x"})
	case 6:
		panic(thrown{"no"})
	}
	return nil
}

// executed is what can be seen of a run.
type executed struct {
	how    string // done, failed or stopped
	result string
	log    []string
}

// execute runs a script to its end, or until it has written down so much.
func execute(script callable, keys, args []string, most int) (e executed) {
	w := &world{most: most}
	e.how = "stopped"
	defer func() {
		e.log = w.log
		if r := recover(); r != nil && r != (stopped{}) {
			panic(r)
		}
	}()
	v, ok := w.try(func() any { return w.call(script, []any{given(keys), given(args)}) })
	e.how = map[bool]string{true: "done", false: "failed"}[ok]
	e.result = show(v, 5)
	return e
}

func given(l []string) *table {
	t := list(nil)
	for i, s := range l {
		t.keys = append(t.keys, int64(i+1))
		t.values[int64(i+1)] = s
	}
	return t
}

// show writes a value down, as deep as it is asked for.
func show(v any, deep int) string {
	switch x := v.(type) {
	case nil:
		return "nil"
	case bool:
		return strconv.FormatBool(x)
	case int64:
		return strconv.FormatInt(x, 10)
	case string:
		return strconv.Quote(x)
	case *table:
		if deep == 0 {
			return "{..}"
		}
		var l []string
		for _, key := range x.keys {
			l = append(l, show(key, 0)+"="+show(x.values[key], deep-1))
		}
		return "{" + strings.Join(l, " ") + "}"
	}
	return kindOf(v).(string)
}

// count returns how many entries of a log are like this.
func (e executed) count(entry string) int {
	n := 0
	for _, x := range e.log {
		if x == entry {
			n++
		}
	}
	return n
}

// calls returns the calls of the host.
func (e executed) calls() string {
	var l []string
	for _, x := range e.log {
		if s, ok := strings.CutPrefix(x, "call "); ok {
			l = append(l, s)
		}
	}
	return strings.Join(l, ", ")
}
