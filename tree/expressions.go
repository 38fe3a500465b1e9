package tree

import (
	"strconv"
	"strings"

	"scriptorium/api"
)

// expWriters returns the functions that write expressions, by their kinds.
func expWriters() map[int]func(*writer, api.Exp) {
	return map[int]func(*writer, api.Exp){
		api.ExpNil:    writeNil,
		api.ExpTrue:   writeTrue,
		api.ExpFalse:  writeFalse,
		api.ExpInt:    writeInt,
		api.ExpString: writeString,
		api.ExpName:   writeName,
		api.ExpFunc:   writeFunction,
		api.ExpTable:  writeTable,
		api.ExpIndex:  writeIndex,
		api.ExpCall:   writeCall,
		api.ExpNot:    writeNot,
		api.ExpMinus:  writeMinus,
		api.ExpLen:    writeLen,
		api.ExpBinary: writeBinary,
		api.ExpAnd:    writeAnd,
		api.ExpOr:     writeOr,
	}
}

func writeNil(w *writer, e api.Exp) { w.add("nil") }

func writeTrue(w *writer, e api.Exp) { w.add("true") }

func writeFalse(w *writer, e api.Exp) { w.add("false") }

func writeInt(w *writer, e api.Exp) { w.add(strconv.FormatInt(e.N, 10)) }

func writeName(w *writer, e api.Exp) { w.add(e.S) }

// writeString writes the bytes that a source may not have within quotation marks, and
// those that can't be seen, by their hexadecimal digits.
func writeString(w *writer, e api.Exp) {
	const digits = "0123456789abcdef"
	w.out.WriteByte('"')
	for i := range len(e.S) {
		b := e.S[i]
		if b < ' ' || b > '~' || b == '"' || b == '\\' {
			w.add("\\x", digits[b>>4:b>>4+1], digits[b&15:b&15+1])
			continue
		}
		w.out.WriteByte(b)
	}
	w.out.WriteByte('"')
}

func writeFunction(w *writer, e api.Exp) {
	w.add("function")
	w.body(e)
}

// body writes a function from its parameters to its end.
func (w *writer) body(e api.Exp) {
	f := at(e.F, 0)
	w.add("(", strings.Join(f.Params, ", "), ")\n")
	w.block(f.Body)
	w.add("end")
}

func writeTable(w *writer, e api.Exp) {
	w.add("{")
	for i := 0; i < len(e.L); i += 2 {
		if i > 0 {
			w.add(", ")
		}
		w.key(e.L[i])
		w.exp(at(e.L, i+1))
	}
	w.add("}")
}

// key writes the key of a field. A number without brackets is not written at all: it
// follows from the place of the field.
func (w *writer) key(e api.Exp) {
	switch {
	case isPlain(e, api.ExpInt):
	case isPlain(e, api.ExpString):
		w.add(e.S, " = ")
	default:
		w.bracketed(e)
		w.add(" = ")
	}
}

// isPlain reports whether e is a key of this kind that is not written in brackets. Of
// other kinds the same Op says something else.
func isPlain(e api.Exp, kind int) bool {
	return e.Kind == kind && e.Op == 1
}

// writeIndex writes a key in brackets, also one that a source has as a name behind a
// point, for in the tree it is the same string; but a key whose Op says that it has no
// brackets gets none here.
func writeIndex(w *writer, e api.Exp) {
	w.head(e)
	if key := at(e.L, 1); isPlain(key, api.ExpString) {
		w.add(".", key.S)
	} else {
		w.bracketed(key)
	}
}

func (w *writer) bracketed(e api.Exp) {
	w.add("[")
	w.exp(e)
	w.add("]")
}

func writeCall(w *writer, e api.Exp) {
	w.head(e)
	w.add("(")
	if len(e.L) > 0 {
		w.list(e.L[1:])
	}
	w.add(")")
}

// head writes what is indexed or called. It has to begin with a name or a parenthesis.
func (w *writer) head(e api.Exp) {
	first := at(e.L, 0)
	switch first.Kind {
	case api.ExpNil, api.ExpTrue, api.ExpFalse, api.ExpInt, api.ExpString, api.ExpFunc, api.ExpTable:
		w.add("(")
		w.exp(first)
		w.add(")")
	default:
		w.exp(first)
	}
}

func writeNot(w *writer, e api.Exp) { w.unary("not ", e) }

func writeMinus(w *writer, e api.Exp) { w.unary("-", e) }

func writeLen(w *writer, e api.Exp) { w.unary("#", e) }

func (w *writer) unary(sign string, e api.Exp) {
	w.add("(", sign)
	w.exp(at(e.L, 0))
	w.add(")")
}

func writeBinary(w *writer, e api.Exp) { w.binary(signOf(e.Op), e) }

func writeAnd(w *writer, e api.Exp) { w.binary("and", e) }

func writeOr(w *writer, e api.Exp) { w.binary("or", e) }

func (w *writer) binary(sign string, e api.Exp) {
	w.add("(")
	w.exp(at(e.L, 0))
	w.add(" ", sign, " ")
	w.exp(at(e.L, 1))
	w.add(")")
}

// signOf returns the sign of a binary operator, or nothing.
func signOf(op int) string {
	switch op {
	case api.OpAdd:
		return "+"
	case api.OpSub:
		return "-"
	case api.OpMul:
		return "*"
	case api.OpDiv:
		return "//"
	case api.OpMod:
		return "%"
	case api.OpJoin:
		return ".."
	case api.OpSame:
		return "=="
	case api.OpOther:
		return "~="
	case api.OpLess:
		return "<"
	case api.OpMost:
		return "<="
	case api.OpMore:
		return ">"
	case api.OpLeast:
		return ">="
	}
	return ""
}
