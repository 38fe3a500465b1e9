package parse

import "scriptorium/api"

// The rules for binary operators, from the one whose operators bind least on: exp, and,
// test, join, sum and term.
const (
	levelOr = 1 + iota
	levelAnd
	levelTest
	levelJoin
	levelSum
	levelTerm
	levelUnary
)

// operator is a binary operator: the rule that it belongs to, and the expression that it
// makes.
type operator struct{ level, kind, op int }

// operatorOf returns the binary operator that a token is, or one of no level.
func operatorOf(t api.Token) operator {
	if !isMark(t) {
		return operator{}
	}
	switch t.Text {
	case "or":
		return operator{levelOr, api.ExpOr, 0}
	case "and":
		return operator{levelAnd, api.ExpAnd, 0}
	case "==":
		return operator{levelTest, api.ExpBinary, api.OpSame}
	case "~=":
		return operator{levelTest, api.ExpBinary, api.OpOther}
	case "<":
		return operator{levelTest, api.ExpBinary, api.OpLess}
	case "<=":
		return operator{levelTest, api.ExpBinary, api.OpMost}
	case ">":
		return operator{levelTest, api.ExpBinary, api.OpMore}
	case ">=":
		return operator{levelTest, api.ExpBinary, api.OpLeast}
	case "..":
		return operator{levelJoin, api.ExpBinary, api.OpJoin}
	case "+":
		return operator{levelSum, api.ExpBinary, api.OpAdd}
	case "-":
		return operator{levelSum, api.ExpBinary, api.OpSub}
	case "*":
		return operator{levelTerm, api.ExpBinary, api.OpMul}
	case "//":
		return operator{levelTerm, api.ExpBinary, api.OpDiv}
	case "%":
		return operator{levelTerm, api.ExpBinary, api.OpMod}
	}
	return operator{}
}

// unaryKind returns the kind of the expressions that begin with this unary operator, or
// 0.
func unaryKind(t api.Token) int {
	if !isMark(t) {
		return 0
	}
	switch t.Text {
	case "not":
		return api.ExpNot
	case "-":
		return api.ExpMinus
	case "#":
		return api.ExpLen
	}
	return 0
}
