package parse_test

import (
	"slices"
	"strings"
	"testing"

	"scriptorium/api"
	"scriptorium/parse"
	"scriptorium/tree"
)

// deriver writes a source by the rules of the grammar, and returns the tree that the
// chapter asks for.
type deriver struct {
	*chance
	out strings.Builder
	// room is how many more things there may be, apart from small ones.
	room int
	deep int
}

// token writes one, with blanks in front of it, and returns its place.
func (d *deriver) token(text string) int {
	s := d.out.String()
	joins := s != "" && !strings.Contains("(){}[],;#", s[len(s)-1:]) && !strings.Contains("(){}[],;#", text[:1])
	if joins || d.below(3) == 0 {
		d.out.WriteString(pick(d.chance, []string{" ", "\n", "\t\r ", " -- ) end\n", "  --\n  "}))
	}
	d.out.WriteString(text)
	return d.out.Len() - len(text)
}

// more reports whether there is to be another one of something, of which there are n.
func (d *deriver) more(n, most int) bool {
	if n == most || d.room <= 0 || d.deep > 40 {
		return false
	}
	return d.below(3) == 0 || most > 10 && d.below(2) == 0 && n%7 > 2
}

func (d *deriver) name() string {
	return pick(d.chance, []string{"a", "b", "x", "y", "_", "ends", "END", "nil_", "x1"})
}

func (d *deriver) exp() api.Exp {
	d.room--
	d.deep++
	e := d.chain([]string{"or"}, d.and)
	d.deep--
	return e
}

func (d *deriver) and() api.Exp  { return d.chain([]string{"and"}, d.test) }
func (d *deriver) test() api.Exp { return d.chain([]string{"==", "~=", "<", "<=", ">", ">="}, d.join) }
func (d *deriver) sum() api.Exp  { return d.chain([]string{"+", "-"}, d.term) }
func (d *deriver) term() api.Exp { return d.chain([]string{"*", "//", "%"}, d.unary) }

func (d *deriver) join() api.Exp {
	e := d.sum()
	if d.more(d.below(3), 1) {
		at := d.token("..")
		e = both("..", at, e, d.join())
	}
	return e
}

// chain writes parts that stand to the left of all that follow.
func (d *deriver) chain(signs []string, part func() api.Exp) api.Exp {
	e := part()
	for d.more(d.below(4), 1) {
		sign := pick(d.chance, signs)
		at := d.token(sign)
		e = both(sign, at, e, part())
	}
	return e
}

func both(sign string, at int, l ...api.Exp) api.Exp {
	switch sign {
	case "or":
		return api.Exp{Kind: api.ExpOr, At: at, L: l}
	case "and":
		return api.Exp{Kind: api.ExpAnd, At: at, L: l}
	}
	signs := []string{"", "+", "-", "*", "//", "%", "..", "==", "~=", "<", "<=", ">", ">="}
	return api.Exp{Kind: api.ExpBinary, At: at, Op: slices.Index(signs, sign), L: l}
}

func (d *deriver) unary() api.Exp {
	if d.room > 0 && d.deep < 40 && d.below(6) == 0 {
		i := d.below(3)
		at := d.token([]string{"not", "-", "#"}[i])
		d.deep++
		e := api.Exp{Kind: []int{api.ExpNot, api.ExpMinus, api.ExpLen}[i], At: at, L: []api.Exp{d.unary()}}
		d.deep--
		return e
	}
	return d.post()
}

func (d *deriver) post() api.Exp {
	kind := d.below(12)
	if d.room <= 0 || d.deep > 40 {
		kind = d.below(7)
	}
	switch kind {
	case 0:
		return api.Exp{Kind: api.ExpNil, At: d.token("nil")}
	case 1:
		return api.Exp{Kind: api.ExpTrue, At: d.token("true")}
	case 2:
		return api.Exp{Kind: api.ExpFalse, At: d.token("false")}
	case 3:
		return api.Exp{Kind: api.ExpInt, At: d.token("042"), N: 42}
	case 4:
		return api.Exp{Kind: api.ExpString, At: d.token(`'\x00="'`), S: "\x00=\""}
	case 5, 6:
		return d.named()
	case 7, 8:
		return d.function(d.token("function"))
	case 9, 10:
		return d.table()
	}
	d.token("(")
	e := d.exp()
	d.token(")")
	for d.more(0, 1) {
		e = d.suffix(e)
	}
	return e
}

// named writes what begins with a name.
func (d *deriver) named() api.Exp {
	s := d.name()
	e := api.Exp{Kind: api.ExpName, At: d.token(s), S: s}
	for d.more(d.below(2), 1) {
		e = d.suffix(e)
	}
	return e
}

func (d *deriver) suffix(e api.Exp) api.Exp {
	d.room--
	switch d.below(3) {
	case 0:
		return d.call(e)
	case 1:
		at := d.token("[")
		key := d.exp()
		d.token("]")
		return api.Exp{Kind: api.ExpIndex, At: at, L: []api.Exp{e, key}}
	}
	at := d.token(".")
	s := d.name()
	key := api.Exp{Kind: api.ExpString, At: d.token(s), S: s}
	return api.Exp{Kind: api.ExpIndex, At: at, L: []api.Exp{e, key}}
}

func (d *deriver) call(e api.Exp) api.Exp {
	call := api.Exp{Kind: api.ExpCall, At: d.token("("), L: []api.Exp{e}}
	for d.more(len(call.L)-1, 16) {
		if len(call.L) > 1 {
			d.token(",")
		}
		call.L = append(call.L, d.exp())
	}
	d.token(")")
	return call
}

func (d *deriver) function(at int) api.Exp {
	f := api.Func{}
	d.token("(")
	for d.more(len(f.Params), 16) {
		if len(f.Params) > 0 {
			d.token(",")
		}
		f.Params = append(f.Params, d.name())
		d.token(f.Params[len(f.Params)-1])
	}
	d.token(")")
	f.Body = d.block()
	d.token("end")
	return api.Exp{Kind: api.ExpFunc, At: at, F: []api.Func{f}}
}

func (d *deriver) table() api.Exp {
	e := api.Exp{Kind: api.ExpTable, At: d.token("{")}
	n := int64(0)
	for d.more(len(e.L)/2, 64) {
		if n++; len(e.L) > 0 {
			d.token(pick(d.chance, []string{",", ";"}))
		}
		switch d.below(3) {
		case 0:
			n--
			d.token("[")
			e.L = append(e.L, d.exp())
			d.token("]")
			d.token("=")
			e.L = append(e.L, d.exp())
		case 1:
			n--
			s := d.name()
			e.L = append(e.L, api.Exp{Kind: api.ExpString, At: d.token(s), S: s, Op: 1})
			d.token("=")
			e.L = append(e.L, d.exp())
		default:
			// The place of the first token is known once there is one.
			before := d.out.Len()
			value := d.exp()
			first := before + firstToken(d.out.String()[before:])
			e.L = append(e.L, api.Exp{Kind: api.ExpInt, At: first, N: n, Op: 1}, value)
		}
	}
	if len(e.L) > 0 && d.below(4) == 0 {
		d.token(pick(d.chance, []string{",", ";"}))
	}
	d.token("}")
	return e
}

// firstToken is the place of the first token in s.
func firstToken(s string) int {
	rest := strings.TrimLeft(s, " \t\r\n")
	for strings.HasPrefix(rest, "--") {
		_, rest, _ = strings.Cut(rest, "\n")
		rest = strings.TrimLeft(rest, " \t\r\n")
	}
	return len(s) - len(rest)
}

func (d *deriver) block() (l []api.Stat) {
	d.deep++
	for n := 0; d.more(n%9, 8); n++ {
		l = append(l, d.stat())
		if d.below(4) == 0 {
			d.token(";")
		}
	}
	if d.below(4) == 0 {
		s := api.Stat{Kind: api.StatReturn, At: d.token("return")}
		if d.below(2) == 0 {
			s.L = []api.Exp{d.exp()}
		}
		if d.below(4) == 0 {
			d.token(";")
		}
		l = append(l, s)
	}
	d.deep--
	return l
}

func (d *deriver) stat() api.Stat {
	d.room--
	before := d.out.Len()
	s := api.Stat{Kind: pick(d.chance, []int{api.StatLocal, api.StatFunc, api.StatSet, api.StatCall, api.StatIf, api.StatWhile, api.StatFor, api.StatEach, api.StatRepeat, api.StatBreak, api.StatDo})}
	switch s.Kind {
	case api.StatLocal, api.StatFunc:
		d.local(&s)
	case api.StatSet:
		d.set(&s)
	case api.StatCall:
		s.L = []api.Exp{d.call(d.named())}
	case api.StatIf:
		d.cases(&s)
	case api.StatWhile:
		d.token("while")
		s.L = []api.Exp{d.exp()}
		d.do(&s)
	case api.StatFor, api.StatEach:
		d.loop(&s)
		d.do(&s)
	case api.StatRepeat:
		d.token("repeat")
		s.Blocks = [][]api.Stat{d.block()}
		d.token("until")
		s.L = []api.Exp{d.exp()}
	case api.StatBreak:
		d.token("break")
	case api.StatDo:
		d.do(&s)
	}
	s.At = before + firstToken(d.out.String()[before:])
	return s
}

func (d *deriver) do(s *api.Stat) {
	d.token("do")
	s.Blocks = [][]api.Stat{d.block()}
	d.token("end")
}

func (d *deriver) local(s *api.Stat) {
	d.token("local")
	s.Names = []string{d.name()}
	if s.Kind == api.StatFunc {
		d.token("function")
		d.token(s.Names[0])
		before := d.out.Len()
		f := d.function(0)
		f.At = before + firstToken(d.out.String()[before:])
		s.L = []api.Exp{f}
		return
	}
	d.token(s.Names[0])
	if d.below(2) == 0 {
		d.token("=")
		s.L = []api.Exp{d.exp()}
	}
}

func (d *deriver) set(s *api.Stat) {
	e := d.named()
	if e.Kind == api.ExpCall {
		at := d.token(".")
		e = api.Exp{Kind: api.ExpIndex, At: at, L: []api.Exp{e, {Kind: api.ExpString, At: d.token("k"), S: "k"}}}
	}
	d.token("=")
	s.L = []api.Exp{e, d.exp()}
}

func (d *deriver) cases(s *api.Stat) {
	d.token("if")
	for n := 0; n == 0 || d.more(n, 5); n++ {
		if n > 0 {
			d.token("elseif")
		}
		s.L = append(s.L, d.exp())
		d.token("then")
		s.Blocks = append(s.Blocks, d.block())
	}
	if d.below(2) == 0 {
		d.token("else")
		s.Blocks = append(s.Blocks, d.block())
	}
	d.token("end")
}

func (d *deriver) loop(s *api.Stat) {
	d.token("for")
	s.Names = []string{d.name()}
	d.token(s.Names[0])
	if s.Kind == api.StatEach {
		d.token(",")
		s.Names = append(s.Names, d.name())
		d.token(s.Names[1])
		d.token("in")
		s.L = []api.Exp{d.exp()}
		return
	}
	d.token("=")
	s.L = []api.Exp{d.exp()}
	for n := 0; n == 0 || n < 2 && d.below(2) == 0; n++ {
		d.token(",")
		s.L = append(s.L, d.exp())
	}
}

// derived returns a source and its tree.
func derived(c *chance) (string, []api.Stat) {
	for {
		d := &deriver{chance: c, room: 1 + c.below(120)}
		l := d.block()
		if s := d.out.String(); len(s) <= api.MaxSource && len(l) > 0 {
			return s, l
		}
	}
}

func TestDerived(t *testing.T) {
	c := newChance()
	longest := 0
	for range 4000 {
		source, want := derived(c)
		l := wantRight(t, source)
		if !tree.Same(l, want) {
			t.Fatalf("16.1: Script(%.2000q) is\n%.2000s, want\n%.2000s", source, show(l), show(want))
		}
		longest = max(longest, tree.Count(l))
		wantBack(t, l)
		if again := wantRight(t, source); !tree.Same(l, again) {
			t.Fatalf("Script(%.2000q) is\n%.2000s, and then\n%.2000s", source, show(l), show(again))
		}
	}
	if longest < 200 {
		t.Fatalf("no source of more than %d things", longest)
	}
}

// wantBack asks for 16.3.
func wantBack(t *testing.T, l []api.Stat) {
	t.Helper()
	text := tree.Text(l)
	if tree.Deep(l) > 40 || len(text) > api.MaxSource {
		return
	}
	back, err, at := parse.Script(text)
	if err != api.OK || !tree.Same(tree.Bare(back), tree.Bare(l)) {
		t.Fatalf("16.3: Script(%.2000q) is %d, %d,\n%.2000s, want\n%.2000s", text, err, at, show(tree.Bare(back)), show(tree.Bare(l)))
	}
}
