package parse_test

import (
	"maps"
	"regexp"
	"slices"
	"strings"
	"sync"
)

// rules is the grammar of chapter 16; only target, call, post and suffix stand here as
// rules of their own for what the chapter says in words.
const rules = `
script  := block END
block   := {stat [';']} ['return' [exp] [';']]
stat    := 'local' NAME ['=' exp] | 'local' 'function' NAME body
         | target '=' exp | call
         | 'if' exp 'then' block {'elseif' exp 'then' block} ['else' block] 'end'
         | 'while' exp 'do' block 'end' | 'repeat' block 'until' exp
         | 'for' NAME '=' exp ',' exp [',' exp] 'do' block 'end'
         | 'for' NAME ',' NAME 'in' exp 'do' block 'end'
         | 'break' | 'do' block 'end'
target  := NAME | NAME {suffix} key
call    := NAME {suffix} args
body    := '(' [NAME {',' NAME}] ')' block 'end'
exp     := and {'or' and}
and     := test {'and' test}
test    := join {('=='|'~='|'<'|'<='|'>'|'>=') join}
join    := sum ['..' join]
sum     := term {('+'|'-') term}
term    := unary {('*'|'//'|'%') unary}
unary   := ('not'|'-'|'#') unary | post
post    := simple | NAME {suffix} | '(' exp ')' {suffix}
suffix  := key | args
key     := '.' NAME | '[' exp ']'
args    := '(' [exp {',' exp}] ')'
simple  := 'nil' | 'true' | 'false' | INT | STRING | 'function' body | table
table   := '{' [field {(','|';') field} [','|';']] '}'
field   := '[' exp ']' '=' exp | NAME '=' exp | exp
`

// grammar has for each rule its forms: lists of rules and of tokens (in ' ', or in
// capitals).
type grammar map[string][][]string

var theGrammar = sync.OnceValue(func() grammar {
	g := &grammarReader{rest: regexp.MustCompile(`'[^']+'|\w+|:=|\S`).FindAllString(rules, -1), made: grammar{}}
	for len(g.rest) > 0 {
		name := g.rest[0]
		g.rest = g.rest[2:]
		g.made[name] = g.forms()
	}
	return g.made
})

type grammarReader struct {
	rest []string
	made grammar
}

// forms reads forms with | between them.
func (g *grammarReader) forms() [][]string {
	l := [][]string{g.form()}
	for len(g.rest) > 0 && g.rest[0] == "|" {
		g.rest = g.rest[1:]
		l = append(l, g.form())
	}
	return l
}

func (g *grammarReader) form() (l []string) {
	for len(g.rest) > 0 && !strings.Contains("|)]}", g.rest[0]) && (len(g.rest) < 2 || g.rest[1] != ":=") {
		mark := g.rest[0]
		g.rest = g.rest[1:]
		if !strings.Contains("([{", mark) {
			l = append(l, mark)
			continue
		}
		inside := g.forms()
		g.rest = g.rest[1:]
		l = append(l, g.group(mark, inside))
	}
	return l
}

// group makes a rule for what stands in brackets.
func (g *grammarReader) group(mark string, inside [][]string) string {
	name := "group" + strings.Repeat("I", len(g.made))
	g.made[name] = nil
	if mark == "{" {
		for i := range inside {
			inside[i] = append(inside[i], name)
		}
	}
	if mark != "(" {
		inside = append(inside, nil)
	}
	g.made[name] = inside
	return name
}

// item is a form of a rule that has been met up to a place, and began at a token.
type item struct {
	rule         string
	form, at, by int
}

// states are Earley's: those behind each of the tokens so far.
type states []map[item]bool

func begin() states {
	return states(nil).with([]item{{rule: "script"}})
}

// with adds what follows from these items.
func (s states) with(work []item) states {
	g, set, n := theGrammar(), map[item]bool{}, len(s)
	s = append(slices.Clip(s), set)
	for len(work) > 0 {
		x := work[len(work)-1]
		work = work[:len(work)-1]
		if set[x] {
			continue
		}
		set[x] = true
		form := g[x.rule][x.form]
		if x.at == len(form) {
			for y := range s[x.by] {
				if mark := y.next(); mark == x.rule {
					work = append(work, y.on())
				}
			}
			continue
		}
		for i, other := range g[form[x.at]] {
			work = append(work, item{rule: form[x.at], form: i, by: n})
			if len(other) == 0 {
				work = append(work, x.on())
			}
		}
		if isEmpty(g, form[x.at], nil) {
			work = append(work, x.on())
		}
	}
	return s
}

// isEmpty reports whether a rule may be met by no tokens.
func isEmpty(g grammar, rule string, within []string) bool {
	return !slices.Contains(within, rule) && slices.ContainsFunc(g[rule], func(form []string) bool {
		return !slices.ContainsFunc(form, func(mark string) bool { return !isEmpty(g, mark, append(within, rule)) })
	})
}

func (x item) next() string {
	if form := theGrammar()[x.rule][x.form]; x.at < len(form) {
		return form[x.at]
	}
	return ""
}

func (x item) on() item {
	x.at++
	return x
}

// allowed are the tokens that may follow.
func (s states) allowed() []string {
	found := map[string]bool{}
	for x := range s[len(s)-1] {
		if mark := x.next(); mark != "" && theGrammar()[mark] == nil {
			found[mark] = true
		}
	}
	return slices.Sorted(maps.Keys(found))
}

// take goes on behind a token that is allowed.
func (s states) take(mark string) states {
	var work []item
	for x := range s[len(s)-1] {
		if x.next() == mark {
			work = append(work, x.on())
		}
	}
	return s.with(work)
}

// marks are all tokens that the grammar names, but END.
func marks() []string {
	found := map[string]bool{}
	for _, forms := range theGrammar() {
		for _, mark := range slices.Concat(forms...) {
			if theGrammar()[mark] == nil && mark != "END" {
				found[mark] = true
			}
		}
	}
	return slices.Sorted(maps.Keys(found))
}
