package parse

import "scriptorium/api"

// How many there may be of a function's parameters, of a call's arguments and of a
// table's fields.
const (
	mostParams    = 16
	mostArguments = 16
	mostFields    = 64
)

func (p *parser) exp(e *api.Exp) bool {
	if !p.enter() || !p.binary(e, levelOr) {
		goto wrong
	}
	return p.leave()
wrong:
	return p.refuse()
}

// addExp reads an expression and adds it to l.
func (p *parser) addExp(l *[]api.Exp) bool {
	var e api.Exp
	ok := p.exp(&e)
	*l = append(*l, e)
	return ok
}

// binary reads by the rule of this level: parts with operators between them.
func (p *parser) binary(e *api.Exp, level int) bool {
	var o operator
	if level == levelUnary {
		return p.unary(e)
	}
	if !p.binary(e, level+1) {
		goto wrong
	}
more:
	o = operatorOf(p.next())
	if o.level != level {
		return true
	}
	*e = api.Exp{Kind: o.kind, At: p.next().At, Op: o.op, L: []api.Exp{*e, {}}}
	p.at++
	if !p.right(&e.L[1], level) {
		goto wrong
	}
	goto more
wrong:
	return p.refuse()
}

// right reads the part that follows an operator of this level. Behind .. it holds all
// that follows.
func (p *parser) right(e *api.Exp, level int) bool {
	if level != levelJoin {
		return p.binary(e, level+1)
	}
	if !p.enter() || !p.binary(e, levelJoin) {
		goto wrong
	}
	return p.leave()
wrong:
	return p.refuse()
}

// unary := ('not'|'-'|'#') unary | post
func (p *parser) unary(e *api.Exp) bool {
	kind := unaryKind(p.next())
	if kind == 0 {
		return p.post(e)
	}
	*e = api.Exp{Kind: kind, At: p.next().At, L: make([]api.Exp, 1)}
	p.at++
	if !p.enter() || !p.unary(&e.L[0]) {
		goto wrong
	}
	return p.leave()
wrong:
	return p.refuse()
}

// post := simple (of a NAME or '(' also:) {'.' NAME | '[' exp ']' | '(' [exp {',' exp}] ')'}
func (p *parser) post(e *api.Exp) bool {
	goesOn := p.next().Kind == api.TokName || p.is("(")
	if !p.simple(e) {
		goto wrong
	}
	for goesOn && (p.is(".") || p.is("[") || p.is("(")) {
		*e = api.Exp{Kind: api.ExpIndex, At: p.next().At, L: []api.Exp{*e}}
		if !p.suffix(e) {
			goto wrong
		}
	}
	return true
wrong:
	return p.refuse()
}

// suffix reads a key or arguments, and adds them to what stands in front of them.
func (p *parser) suffix(e *api.Exp) bool {
	switch {
	case p.take("."):
		if !p.addKey(&e.L) {
			goto wrong
		}
	case p.take("["):
		if !p.addExp(&e.L) || !p.take("]") {
			goto wrong
		}
	case p.take("("):
		e.Kind = api.ExpCall
		if !p.arguments(&e.L) {
			goto wrong
		}
	}
	return true
wrong:
	return p.refuse()
}

// addKey reads the name behind a point and adds it to l.
func (p *parser) addKey(l *[]api.Exp) bool {
	key := api.Exp{Kind: api.ExpString, At: p.next().At}
	ok := p.name(&key.S)
	*l = append(*l, key)
	return ok
}

// [exp {',' exp}] ')'
func (p *parser) arguments(l *[]api.Exp) bool {
	n := 0
	if p.take(")") {
		return true
	}
more:
	if !p.room(n, mostArguments) || !p.addExp(l) {
		goto wrong
	}
	n++
	if p.take(",") {
		goto more
	}
	if !p.take(")") {
		goto wrong
	}
	return true
wrong:
	return p.refuse()
}

// simple := 'nil' | 'true' | 'false' | INT | STRING | 'function' body | table | NAME | '(' exp ')'
func (p *parser) simple(e *api.Exp) bool {
	t := p.next()
	switch t.Kind {
	case api.TokInt:
		*e = api.Exp{Kind: api.ExpInt, At: t.At, N: t.N}
	case api.TokString:
		*e = api.Exp{Kind: api.ExpString, At: t.At, S: t.Text}
	case api.TokName:
		*e = api.Exp{Kind: api.ExpName, At: t.At, S: t.Text}
	default:
		return p.marked(e)
	}
	p.at++
	return true
}

// marked reads what is simple and begins with a word or a sign.
func (p *parser) marked(e *api.Exp) bool {
	at := p.next().At
	switch {
	case p.take("nil"):
		*e = api.Exp{Kind: api.ExpNil, At: at}
	case p.take("true"):
		*e = api.Exp{Kind: api.ExpTrue, At: at}
	case p.take("false"):
		*e = api.Exp{Kind: api.ExpFalse, At: at}
	case p.take("function"):
		return p.body(e, at)
	case p.take("{"):
		*e = api.Exp{Kind: api.ExpTable, At: at}
		return p.fields(&e.L)
	case p.take("("):
		if !p.exp(e) || !p.take(")") {
			goto wrong
		}
	default:
		goto wrong
	}
	return true
wrong:
	return p.refuse()
}

// body := '(' [NAME {',' NAME}] ')' block 'end'
func (p *parser) body(e *api.Exp, at int) bool {
	*e = api.Exp{Kind: api.ExpFunc, At: at, F: make([]api.Func, 1)}
	f := &e.F[0]
	if !p.take("(") || !p.params(&f.Params) || !p.block(&f.Body) || !p.take("end") {
		goto wrong
	}
	return true
wrong:
	return p.refuse()
}

// [NAME {',' NAME}] ')'
func (p *parser) params(l *[]string) bool {
	if p.take(")") {
		return true
	}
more:
	if !p.room(len(*l), mostParams) || !p.addName(l) {
		goto wrong
	}
	if p.take(",") {
		goto more
	}
	if !p.take(")") {
		goto wrong
	}
	return true
wrong:
	return p.refuse()
}

// [field {(','|';') field} [','|';']] '}'
func (p *parser) fields(l *[]api.Exp) bool {
	numbers := int64(0)
more:
	if p.take("}") {
		return true
	}
	if !p.room(len(*l)/2, mostFields) || !p.field(l, &numbers) {
		goto wrong
	}
	if p.take(",") || p.take(";") {
		goto more
	}
	if !p.take("}") {
		goto wrong
	}
	return true
wrong:
	return p.refuse()
}

// field := '[' exp ']' '=' exp | NAME '=' exp | exp
//
// The number of fields of the third form so far is counted in numbers.
func (p *parser) field(l *[]api.Exp, numbers *int64) bool {
	t := p.next()
	switch {
	case p.take("["):
		if !p.addExp(l) || !p.take("]") || !p.take("=") {
			goto wrong
		}
	case p.isNamed():
		*l = append(*l, api.Exp{Kind: api.ExpString, At: t.At, S: t.Text, Op: 1})
		p.at += 2
	default:
		*numbers++
		*l = append(*l, api.Exp{Kind: api.ExpInt, At: t.At, N: *numbers, Op: 1})
	}
	if !p.addExp(l) {
		goto wrong
	}
	return true
wrong:
	return p.refuse()
}

// isNamed reports whether a field begins with a name as its key. Behind a name there is
// always a token, for the last one is the end.
func (p *parser) isNamed() bool {
	if p.next().Kind != api.TokName {
		return false
	}
	after := p.tokens[p.at+1]
	return after.Kind == api.TokSign && after.Text == "="
}
