package scope

// What an item of a stack is: a name, or the beginning of a scope.
const (
	aName = iota
	ofBlock
	ofLoop
	ofFunction
)

type item struct {
	kind int
	name string
	// Of the beginning of a function: the counts of the function around it.
	own, loops int
}

// stack is a stack of scopes: each is a beginning with the names above it, which are
// visible up to its end.
type stack struct {
	items  []item
	called map[string]int // how many names of the stack are called so
	own    int            // how many names belong to the innermost function
	loops  int            // how many loops of the innermost function are open
}

// enter begins a scope.
func (t *stack) enter(kind int) {
	t.items = append(t.items, item{kind: kind, own: t.own, loops: t.loops})
	switch kind {
	case ofLoop:
		t.loops++
	case ofFunction:
		t.own, t.loops = 0, 0
	}
}

// declare makes names visible up to the end of the innermost scope. A name that is there
// already is counted again: it is hidden, but it comes back.
func (t *stack) declare(l []string) {
	for _, s := range l {
		t.items = append(t.items, item{kind: aName, name: s})
		t.called[s]++
		t.own++
	}
}

// leave ends the innermost scope: all names above its beginning go with it.
func (t *stack) leave() {
scope:
	for {
		last := len(t.items) - 1
		top := t.items[last]
		t.items = t.items[:last]
		switch top.kind {
		case aName:
			t.called[top.name]--
			t.own--
		case ofBlock:
			break scope
		case ofLoop:
			t.loops--
			break scope
		case ofFunction:
			t.own, t.loops = top.own, top.loops
			break scope
		}
	}
}

// has reports whether a name is visible.
func (t *stack) has(s string) bool {
	return t.called[s] > 0
}
