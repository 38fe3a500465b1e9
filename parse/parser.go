package parse

import "scriptorium/api"

// parser goes over the tokens of a script once. There is a method for each rule of the
// grammar, which stores what it reads, or reports false where a token is refused: all
// rules end then, and the next token stays the one that was refused.
type parser struct {
	tokens []api.Token
	at     int // the next token
	deep   int // how many things that count for the depth contain it
	err    int // why the next token is refused
}

// refuse ends a rule. What has been refused by a rule within it stays refused for the
// same reason.
func (p *parser) refuse() bool {
	if p.err == api.OK {
		p.err = api.ErrSource
	}
	return false
}

// room reports whether there may be one more of something, where there are n. A rule asks
// this before it looks at the next token, so that the limit comes first.
func (p *parser) room(n, most int) bool {
	if n < most {
		return true
	}
	p.err = api.ErrLimit
	return false
}

// enter begins something that counts for the depth.
func (p *parser) enter() bool {
	if !p.room(p.deep, api.MaxDeep) {
		return false
	}
	p.deep++
	return true
}

// leave ends what enter began.
func (p *parser) leave() bool {
	p.deep--
	return true
}

func (p *parser) next() api.Token {
	return p.tokens[p.at]
}

// is reports whether the next token is this word or sign.
func (p *parser) is(text string) bool {
	return isMark(p.next()) && p.next().Text == text
}

// isMark reports whether a token means what its text says, as words and signs do.
func isMark(t api.Token) bool {
	return t.Kind == api.TokWord || t.Kind == api.TokSign
}

// take goes on behind the next token if it is this word or sign.
func (p *parser) take(text string) bool {
	if !p.is(text) {
		return false
	}
	p.at++
	return true
}

// name reads a name.
func (p *parser) name(s *string) bool {
	if p.next().Kind != api.TokName {
		return p.refuse()
	}
	*s = p.next().Text
	p.at++
	return true
}

// addName reads a name and adds it to l.
func (p *parser) addName(l *[]string) bool {
	var s string
	ok := p.name(&s)
	*l = append(*l, s)
	return ok
}
