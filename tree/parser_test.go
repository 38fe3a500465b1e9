package tree_test

import (
	"fmt"
	"slices"
	"testing"

	"scriptorium/api"
	"scriptorium/lex"
)

// parser is a plain parser by the words of chapter 16. Where a source is wrong, it panics
// with a string.
type parser struct {
	tokens []api.Token
	deep   int
	// inParens asks for another tree: At of an expression is the number of parentheses
	// that stand around it, and that of a statement is 0.
	inParens bool
}

// model returns the block of a source, or what is wrong with it.
func model(s string, inParens bool) (l []api.Stat, wrong string) {
	tokens, err, at := lex.Lex(s)
	if err != api.OK {
		return nil, fmt.Sprintf("Lex: %d, %d", err, at)
	}
	p := &parser{tokens: tokens, inParens: inParens}
	defer func() {
		if r := recover(); r != nil {
			l, wrong = nil, fmt.Sprintf("%v at %d", r, p.tokens[0].At)
		}
	}()
	l = p.block()
	if p.tokens[0].Kind != api.TokEnd {
		panic("more than a block")
	}
	return l, ""
}

// parsed returns the block of a right source.
func parsed(t testing.TB, s string) []api.Stat {
	t.Helper()
	l, wrong := model(s, false)
	if wrong != "" {
		t.Fatalf("the source %.300q: %s", s, wrong)
	}
	return l
}

func (p *parser) place(at int) int {
	if p.inParens {
		return 0
	}
	return at
}

func (p *parser) is(text string) bool {
	kind := p.tokens[0].Kind
	return (kind == api.TokWord || kind == api.TokSign) && p.tokens[0].Text == text
}

func (p *parser) next() api.Token {
	token := p.tokens[0]
	p.tokens = p.tokens[1:]
	return token
}

func (p *parser) take(text string) bool {
	if !p.is(text) {
		return false
	}
	p.next()
	return true
}

func (p *parser) must(text string) int {
	if !p.is(text) {
		panic("no " + text)
	}
	return p.next().At
}

func (p *parser) name() string {
	if p.tokens[0].Kind != api.TokName {
		panic("no name")
	}
	return p.next().Text
}

// nested counts how deep things stand within one another by 16.2.
func (p *parser) nested(then func()) {
	p.deep++
	if p.deep > api.MaxDeep {
		panic("too deep")
	}
	then()
	p.deep--
}

func (p *parser) block() (l []api.Stat) {
	p.nested(func() {
		for {
			s := api.Stat{At: p.place(p.tokens[0].At)}
			if p.take("return") {
				s.Kind = api.StatReturn
				if !p.isEnd() && !p.is(";") {
					s.L = []api.Exp{p.exp()}
				}
				p.take(";")
				l = append(l, s)
			}
			if p.isEnd() {
				return
			}
			if s.Kind != 0 {
				panic("something behind return")
			}
			p.stat(&s)
			l = append(l, s)
			p.take(";")
		}
	})
	return l
}

func (p *parser) isEnd() bool {
	return p.is("end") || p.is("else") || p.is("elseif") || p.is("until") || p.tokens[0].Kind == api.TokEnd
}

func (p *parser) stat(s *api.Stat) {
	switch {
	case p.take("local"):
		p.local(s)
	case p.take("if"):
		p.cases(s)
	case p.take("while"):
		s.Kind = api.StatWhile
		s.L = []api.Exp{p.exp()}
		p.doBlock(s)
	case p.take("repeat"):
		s.Kind = api.StatRepeat
		s.Blocks = [][]api.Stat{p.block()}
		p.must("until")
		s.L = []api.Exp{p.exp()}
	case p.take("for"):
		p.loop(s)
	case p.take("break"):
		s.Kind = api.StatBreak
	case p.is("do"):
		s.Kind = api.StatDo
		p.doBlock(s)
	default:
		p.setOrCall(s)
	}
}

func (p *parser) doBlock(s *api.Stat) {
	p.must("do")
	s.Blocks = [][]api.Stat{p.block()}
	p.must("end")
}

func (p *parser) local(s *api.Stat) {
	s.Kind = api.StatLocal
	if p.take("function") {
		s.Kind = api.StatFunc
	}
	s.Names = []string{p.name()}
	if s.Kind == api.StatFunc {
		s.L = []api.Exp{p.body(p.tokens[0].At)}
	} else if p.take("=") {
		s.L = []api.Exp{p.exp()}
	}
}

func (p *parser) cases(s *api.Stat) {
	s.Kind = api.StatIf
	for {
		s.L = append(s.L, p.exp())
		p.must("then")
		s.Blocks = append(s.Blocks, p.block())
		if !p.take("elseif") {
			break
		}
	}
	if p.take("else") {
		s.Blocks = append(s.Blocks, p.block())
	}
	p.must("end")
}

func (p *parser) loop(s *api.Stat) {
	s.Kind = api.StatEach
	s.Names = []string{p.name()}
	if p.take(",") {
		s.Names = append(s.Names, p.name())
		p.must("in")
		s.L = []api.Exp{p.exp()}
	} else {
		s.Kind = api.StatFor
		p.must("=")
		s.L = append(s.L, p.exp())
		p.must(",")
		s.L = append(s.L, p.exp())
		if p.take(",") {
			s.L = append(s.L, p.exp())
		}
	}
	p.doBlock(s)
}

func (p *parser) setOrCall(s *api.Stat) {
	if p.tokens[0].Kind != api.TokName {
		panic("no statement")
	}
	e := p.post()
	if e.Kind == api.ExpCall {
		s.Kind, s.L = api.StatCall, []api.Exp{e}
		return
	}
	p.must("=")
	s.Kind, s.L = api.StatSet, []api.Exp{e, p.exp()}
}

func (p *parser) body(at int) api.Exp {
	f := api.Func{}
	p.must("(")
	for !p.is(")") {
		if len(f.Params) > 0 {
			p.must(",")
		}
		f.Params = append(f.Params, p.name())
	}
	p.must(")")
	if len(f.Params) > 16 {
		panic("too many parameters")
	}
	f.Body = p.block()
	p.must("end")
	return api.Exp{Kind: api.ExpFunc, At: p.place(at), F: []api.Func{f}}
}

func (p *parser) exp() (e api.Exp) {
	p.nested(func() { e = p.level(0) })
	return e
}

// levels are the binary operators, from those that bind least on.
func levels() [][]string {
	return [][]string{{"or"}, {"and"}, {"==", "~=", "<", "<=", ">", ">="}, {".."}, {"+", "-"}, {"*", "//", "%"}}
}

// operators are the signs by their numbers.
func operators() []string {
	return []string{"", "+", "-", "*", "//", "%", "..", "==", "~=", "<", "<=", ">", ">="}
}

func (p *parser) level(n int) api.Exp {
	if n == len(levels()) {
		return p.unary()
	}
	e := p.level(n + 1)
	for slices.ContainsFunc(levels()[n], p.is) {
		token := p.next()
		both := api.Exp{Kind: api.ExpBinary, At: p.place(token.At), Op: slices.Index(operators(), token.Text)}
		switch token.Text {
		case "or":
			both.Kind, both.Op = api.ExpOr, 0
		case "and":
			both.Kind, both.Op = api.ExpAnd, 0
		}
		if token.Text == ".." {
			p.nested(func() { both.L = []api.Exp{e, p.level(n)} })
		} else {
			both.L = []api.Exp{e, p.level(n + 1)}
		}
		e = both
	}
	return e
}

func (p *parser) unary() (e api.Exp) {
	for i, text := range []string{"not", "-", "#"} {
		if p.is(text) {
			e = api.Exp{Kind: api.ExpNot + i, At: p.place(p.next().At)}
			p.nested(func() { e.L = []api.Exp{p.unary()} })
			return e
		}
	}
	return p.post()
}

func (p *parser) post() api.Exp {
	if p.tokens[0].Kind != api.TokName && !p.is("(") {
		return p.simple()
	}
	e := p.simple()
	for p.is(".") || p.is("[") || p.is("(") {
		token := p.next()
		whole := api.Exp{Kind: api.ExpIndex, At: p.place(token.At), L: []api.Exp{e}}
		switch token.Text {
		case ".":
			at := p.place(p.tokens[0].At)
			whole.L = append(whole.L, api.Exp{Kind: api.ExpString, At: at, S: p.name()})
		case "[":
			whole.L = append(whole.L, p.exp())
			p.must("]")
		case "(":
			whole.Kind = api.ExpCall
			p.arguments(&whole)
		}
		e = whole
	}
	return e
}

func (p *parser) arguments(call *api.Exp) {
	for !p.is(")") {
		if len(call.L) > 1 {
			p.must(",")
		}
		call.L = append(call.L, p.exp())
	}
	p.must(")")
	if len(call.L) > 17 {
		panic("too many arguments")
	}
}

func (p *parser) simple() api.Exp {
	token := p.tokens[0]
	e := api.Exp{At: p.place(token.At), N: token.N}
	switch token.Kind {
	case api.TokInt:
		e.Kind = api.ExpInt
	case api.TokString:
		e.Kind, e.S = api.ExpString, token.Text
	case api.TokName:
		e.Kind, e.S = api.ExpName, token.Text
	default:
		return p.other(e)
	}
	p.next()
	return e
}

func (p *parser) other(e api.Exp) api.Exp {
	at := p.tokens[0].At
	switch {
	case p.take("nil"):
		e.Kind = api.ExpNil
	case p.take("true"):
		e.Kind = api.ExpTrue
	case p.take("false"):
		e.Kind = api.ExpFalse
	case p.take("function"):
		return p.body(at)
	case p.take("{"):
		e.Kind = api.ExpTable
		p.fields(&e)
	case p.take("("):
		e = p.exp()
		p.must(")")
		if p.inParens {
			e.At++
		}
	default:
		panic("no expression")
	}
	return e
}

func (p *parser) fields(e *api.Exp) {
	for n := int64(1); !p.is("}"); {
		key := api.Exp{Kind: api.ExpInt, At: p.place(p.tokens[0].At), N: n, Op: 1}
		switch {
		case p.take("["):
			key = p.exp()
			p.must("]")
			p.must("=")
		case p.tokens[0].Kind == api.TokName && p.tokens[1].Kind == api.TokSign && p.tokens[1].Text == "=":
			key = api.Exp{Kind: api.ExpString, At: key.At, S: p.name(), Op: 1}
			p.must("=")
		default:
			n++
		}
		e.L = append(e.L, key, p.exp())
		if !p.take(",") && !p.take(";") {
			break
		}
	}
	p.must("}")
	if len(e.L) > 128 {
		panic("too many fields")
	}
}
