package parse_test

import (
	"strconv"
	"strings"

	"scriptorium/api"
)

// kinds of expressions and statements, by their numbers.
func expKinds() []string {
	return []string{"?", "nil", "true", "false", "int", "string", "name", "func", "table", "index", "call", "not", "minus", "len", "binary", "and", "or"}
}

func statKinds() []string {
	return []string{"?", "local", "set", "call", "if", "while", "for", "each", "repeat", "break", "return", "do", "localfunc"}
}

// show writes all that is in a block: for each statement its kind and place, its names
// behind :, its expressions in ( ) and its blocks in { }; for each expression its kind
// and place, N behind #, S in quotation marks, Op behind /, its parts in ( ) and its
// functions in < >.
func show(l []api.Stat) string {
	return strings.Join(each(l, showStat), " ")
}

func showStat(s api.Stat) string {
	text := statKinds()[s.Kind] + "@" + strconv.Itoa(s.At)
	if len(s.Names) > 0 {
		text += ":" + strings.Join(s.Names, ",")
	}
	if len(s.L) > 0 {
		text += "(" + strings.Join(each(s.L, showExp), " ") + ")"
	}
	for _, block := range s.Blocks {
		text += "{" + show(block) + "}"
	}
	return text
}

func showExp(e api.Exp) string {
	text := expKinds()[e.Kind] + "@" + strconv.Itoa(e.At)
	if e.N != 0 {
		text += "#" + strconv.FormatInt(e.N, 10)
	}
	if e.S != "" {
		text += strconv.Quote(e.S)
	}
	if e.Op != 0 {
		text += "/" + strconv.Itoa(e.Op)
	}
	if len(e.L) > 0 {
		text += "(" + strings.Join(each(e.L, showExp), " ") + ")"
	}
	for _, f := range e.F {
		text += "<" + strings.Join(f.Params, ",") + ":" + show(f.Body) + ">"
	}
	return text
}

func each[T any](l []T, of func(T) string) []string {
	var made []string
	for _, x := range l {
		made = append(made, of(x))
	}
	return made
}
