package lex

import (
	"strconv"
	"strings"

	"scriptorium/api"
)

// none is what comes behind the last byte.
const none = -1

// reader divides a source into tokens.
type reader struct {
	source string
	from   int // where the token begins that is being read
	at     int // the next byte
	tokens []api.Token
}

// read reads all tokens. It reports false if one is wrong, which begins at from then.
func (r *reader) read() bool {
	var b int
	var t api.Token
	var ok bool
between:
	r.from = r.at
	b = r.take()
	switch {
	case b == none:
		goto end
	case isBlank(b):
		goto between
	case b == '-' && r.peek() == '-':
		goto comment
	case isLetter(b):
		goto word
	case isDigit(b):
		goto number
	case b == '"' || b == '\'':
		goto text
	}
	goto sign
comment:
	b = r.take()
	if b != '\n' && b != none {
		goto comment
	}
	goto between
word:
	if isInWord(r.peek()) {
		r.at++
		goto word
	}
	t, ok = wordOf(r.taken())
	goto check
number:
	if isInWord(r.peek()) {
		r.at++
		goto number
	}
	t, ok = numberOf(r.taken())
	goto check
text:
	t, ok = r.text(b)
	goto check
sign:
	t, ok = r.sign()
check:
	if !ok {
		return false
	}
	t.At = r.from
	r.tokens = append(r.tokens, t)
	goto between
end:
	r.tokens = append(r.tokens, api.Token{Kind: api.TokEnd, At: r.from})
	return true
}

// text reads the rest of a string, which ends with the mark that it begins with.
func (r *reader) text(mark int) (api.Token, bool) {
	var b, high, low int
	var denoted []byte
plain:
	b = r.take()
	switch b {
	case mark:
		goto end
	case '\\':
		goto escape
	case '\n', none:
		goto wrong
	}
add:
	denoted = append(denoted, byte(b))
	goto plain
escape:
	b = r.take()
	switch b {
	case 'n':
		b = '\n'
		goto add
	case 't':
		b = '\t'
		goto add
	case '\\', '"', '\'':
		goto add
	case 'x':
		goto hexadecimal
	}
	goto wrong
hexadecimal:
	high = hexDigit(r.take())
	low = hexDigit(r.take())
	if high == none || low == none {
		goto wrong
	}
	b = high<<4 | low
	goto add
end:
	return api.Token{Kind: api.TokString, Text: string(denoted)}, len(denoted) <= api.MaxText
wrong:
	return api.Token{}, false
}

// sign reads a sign, of which the first byte has been taken.
func (r *reader) sign() (api.Token, bool) {
	if r.at < len(r.source) && isSign(r.source[r.from:r.at+1]) {
		r.at++
	}
	s := r.taken()
	return api.Token{Kind: api.TokSign, Text: strings.Clone(s)}, isSign(s)
}

// peek returns the next byte, or none.
func (r *reader) peek() int {
	if r.at == len(r.source) {
		return none
	}
	return int(r.source[r.at])
}

// take returns the next byte, or none, and goes on to the one behind it.
func (r *reader) take() int {
	b := r.peek()
	if b != none {
		r.at++
	}
	return b
}

// taken returns the bytes of the token so far.
func (r *reader) taken() string {
	return r.source[r.from:r.at]
}

// wordOf returns the token of a word or a name.
func wordOf(s string) (api.Token, bool) {
	kind := api.TokName
	if Word(s) {
		kind = api.TokWord
	}
	return api.Token{Kind: kind, Text: strings.Clone(s)}, len(s) <= mostWord
}

// numberOf returns the token of an integer. It begins with a digit, so that ParseInt
// meets no + or -, which it would take.
func numberOf(s string) (api.Token, bool) {
	n, err := strconv.ParseInt(s, 10, 64)
	return api.Token{Kind: api.TokInt, N: n}, err == nil
}
