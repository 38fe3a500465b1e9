package parse

import "scriptorium/api"

// script reads a block and the end of the script behind it.
func (p *parser) script(l *[]api.Stat) bool {
	if !p.block(l) {
		goto wrong
	}
	if p.next().Kind != api.TokEnd {
		goto wrong
	}
	return true
wrong:
	return p.refuse()
}

// block := {stat [';']} ['return' [exp] [';']]
//
// What contains a block asks for the token that ends it, so that nothing else follows
// its return.
func (p *parser) block(l *[]api.Stat) bool {
	var s api.Stat
	if !p.enter() {
		goto wrong
	}
	for !p.endsBlock() && s.Kind != api.StatReturn {
		s = api.Stat{At: p.next().At}
		if !p.stat(&s) {
			goto wrong
		}
		*l = append(*l, s)
		p.take(";")
	}
	return p.leave()
wrong:
	return p.refuse()
}

// endsBlock reports whether a block ends in front of the next token.
func (p *parser) endsBlock() bool {
	return p.next().Kind == api.TokEnd || p.is("end") || p.is("else") || p.is("elseif") || p.is("until")
}

// addBlock reads a block and adds it to those of s.
func (p *parser) addBlock(s *api.Stat) bool {
	s.Blocks = append(s.Blocks, nil)
	return p.block(&s.Blocks[len(s.Blocks)-1])
}

// stat reads a statement, or the return that a block ends with.
func (p *parser) stat(s *api.Stat) bool {
	switch {
	case p.take("local"):
		return p.local(s)
	case p.take("if"):
		return p.cases(s)
	case p.take("while"):
		return p.while(s)
	case p.take("repeat"):
		return p.repeat(s)
	case p.take("for"):
		return p.loop(s)
	case p.take("break"):
		s.Kind = api.StatBreak
		return true
	case p.take("return"):
		return p.end(s)
	case p.is("do"):
		s.Kind = api.StatDo
		return p.do(s)
	}
	return p.setOrCall(s)
}

// 'local' NAME ['=' exp] | 'local' 'function' NAME body
func (p *parser) local(s *api.Stat) bool {
	s.Kind = api.StatLocal
	if p.take("function") {
		s.Kind = api.StatFunc
	}
	if !p.addName(&s.Names) {
		goto wrong
	}
	if s.Kind == api.StatFunc {
		goto function
	}
	if p.take("=") && !p.addExp(&s.L) {
		goto wrong
	}
	return true
function:
	s.L = make([]api.Exp, 1)
	if !p.body(&s.L[0], p.next().At) {
		goto wrong
	}
	return true
wrong:
	return p.refuse()
}

// 'if' exp 'then' block {'elseif' exp 'then' block} ['else' block] 'end'
func (p *parser) cases(s *api.Stat) bool {
	s.Kind = api.StatIf
condition:
	if !p.addExp(&s.L) || !p.take("then") || !p.addBlock(s) {
		goto wrong
	}
	if p.take("elseif") {
		goto condition
	}
	if p.take("else") && !p.addBlock(s) {
		goto wrong
	}
	if !p.take("end") {
		goto wrong
	}
	return true
wrong:
	return p.refuse()
}

// 'while' exp 'do' block 'end'
func (p *parser) while(s *api.Stat) bool {
	s.Kind = api.StatWhile
	if !p.addExp(&s.L) || !p.do(s) {
		goto wrong
	}
	return true
wrong:
	return p.refuse()
}

// 'repeat' block 'until' exp
func (p *parser) repeat(s *api.Stat) bool {
	s.Kind = api.StatRepeat
	if !p.addBlock(s) || !p.take("until") || !p.addExp(&s.L) {
		goto wrong
	}
	return true
wrong:
	return p.refuse()
}

// 'for' NAME '=' exp ',' exp [',' exp] 'do' block 'end' | 'for' NAME ',' NAME 'in' exp 'do' block 'end'
func (p *parser) loop(s *api.Stat) bool {
	if !p.addName(&s.Names) {
		goto wrong
	}
	if p.take(",") {
		goto each
	}
	s.Kind = api.StatFor
	if !p.take("=") || !p.addExp(&s.L) || !p.take(",") || !p.addExp(&s.L) {
		goto wrong
	}
	if p.take(",") && !p.addExp(&s.L) {
		goto wrong
	}
	goto block
each:
	s.Kind = api.StatEach
	if !p.addName(&s.Names) || !p.take("in") || !p.addExp(&s.L) {
		goto wrong
	}
block:
	if !p.do(s) {
		goto wrong
	}
	return true
wrong:
	return p.refuse()
}

// 'do' block 'end'
func (p *parser) do(s *api.Stat) bool {
	if !p.take("do") || !p.addBlock(s) || !p.take("end") {
		goto wrong
	}
	return true
wrong:
	return p.refuse()
}

// 'return' [exp] [';']: all but what a block may end with, or a ;, is taken for an
// expression.
func (p *parser) end(s *api.Stat) bool {
	s.Kind = api.StatReturn
	if p.endsBlock() || p.is(";") {
		return true
	}
	if !p.addExp(&s.L) {
		goto wrong
	}
	return true
wrong:
	return p.refuse()
}

// target '=' exp | call
func (p *parser) setOrCall(s *api.Stat) bool {
	s.L = make([]api.Exp, 1)
	if p.next().Kind != api.TokName || !p.post(&s.L[0]) {
		goto wrong
	}
	if s.L[0].Kind == api.ExpCall {
		s.Kind = api.StatCall
		return true
	}
	s.Kind = api.StatSet
	if !p.take("=") || !p.addExp(&s.L) {
		goto wrong
	}
	return true
wrong:
	return p.refuse()
}
