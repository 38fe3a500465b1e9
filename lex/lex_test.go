package lex_test

import (
	"fmt"
	"math"
	"slices"
	"strings"
	"testing"
	"unsafe"

	"scriptorium/api"
	"scriptorium/lex"
)

// reserved are the words of 14.1.
func reserved() []string {
	return strings.Fields("and break do else elseif end false for function if in local nil not or repeat return then true until while")
}

// signs are those of 14.2, the ones of two bytes first.
func signs() []string {
	return strings.Fields(".. == ~= <= >= // + - * % < > = ( ) { } [ ] , . # ;")
}

func word(s string, at int) api.Token { return api.Token{Kind: api.TokWord, Text: s, At: at} }

func name(s string, at int) api.Token { return api.Token{Kind: api.TokName, Text: s, At: at} }

func number(n int64, at int) api.Token { return api.Token{Kind: api.TokInt, N: n, At: at} }

func text(s string, at int) api.Token { return api.Token{Kind: api.TokString, Text: s, At: at} }

func sign(s string, at int) api.Token { return api.Token{Kind: api.TokSign, Text: s, At: at} }

func end(at int) api.Token { return api.Token{Kind: api.TokEnd, At: at} }

// show keeps what is told short.
func show(l []api.Token) string {
	return fmt.Sprintf("%.300s", fmt.Sprint(l))
}

// wantTokens holds Lex against the tokens of s but the last one.
func wantTokens(t *testing.T, s string, want ...api.Token) {
	t.Helper()
	want = append(slices.Clone(want), end(len(s)))
	if got, err, at := lex.Lex(s); err != api.OK || at != 0 || !slices.Equal(got, want) {
		t.Fatalf("14.2: Lex(%.100q): %s, %d, %d, want %s", s, show(got), err, at, show(want))
	}
}

func wantError(t *testing.T, s string, wantErr, wantAt int) {
	t.Helper()
	if got, err, at := lex.Lex(s); len(got) != 0 || err != wantErr || at != wantAt {
		t.Fatalf("14.2: Lex(%.100q): %s, %d, %d, want no tokens, %d, %d", s, show(got), err, at, wantErr, wantAt)
	}
}

// wantWrong asks for no tokens and the place of the first wrong one.
func wantWrong(t *testing.T, s string, at int) {
	t.Helper()
	wantError(t, s, api.ErrSource, at)
}

func TestWord(t *testing.T) {
	if len(reserved()) != 21 {
		t.Fatalf("14.1: %d words are held against Word", len(reserved()))
	}
	for _, s := range reserved() {
		if !lex.Word(s) {
			t.Errorf("14.1: Word(%q) is false", s)
		}
		for _, other := range near(s) {
			if lex.Word(other) != slices.Contains(reserved(), other) {
				t.Errorf("14.1: Word(%q) is %v", other, lex.Word(other))
			}
		}
	}
	for _, s := range []string{"", " ", "goto", "continue", "self", "x", "_", "elsif", "else if", "elseifelse", "andor", "null", "var", "\xff", "end\x00", "\x00"} {
		if lex.Word(s) {
			t.Errorf("14.1: Word(%q) is true", s)
		}
	}
}

// near are strings that differ little from s.
func near(s string) []string {
	l := []string{s + " ", " " + s, s + "_", "_" + s, s + "1", s + s, s + "\x00", strings.ToUpper(s), strings.ToUpper(s[:1]) + s[1:]}
	for i := range s {
		l = append(l, s[:i], s[i:], s[:i]+s[i+1:], s[:i]+"x"+s[i+1:], s[:i]+"x"+s[i:])
	}
	return l
}

// All strings of a few small letters: so many of them are words.
func TestShortWords(t *testing.T) {
	texts, count := []string{""}, 0
	for from := 0; len(texts[from]) < 4; from++ {
		for b := byte('a'); b <= 'z'; b++ {
			texts = append(texts, texts[from]+string(b))
		}
	}
	for _, s := range texts {
		if lex.Word(s) {
			count++
		}
		if s != "" && lex.Name(s) == lex.Word(s) {
			t.Fatalf("14.1: Name(%q) and Word(%q) are both %v", s, s, lex.Word(s))
		}
	}
	// do if in or, and end for nil not, else then true
	if want := 4 + 5 + 3; count != want {
		t.Errorf("14.1: %d strings of up to four letters are words, want %d", count, want)
	}
}

func isLetter(b byte) bool { return b >= 'a' && b <= 'z' || b >= 'A' && b <= 'Z' }

func isDigit(b byte) bool { return b >= '0' && b <= '9' }

func TestName(t *testing.T) {
	long := strings.Repeat("n", 32)
	for _, s := range []string{"_a1", "x", "_", "__", "_1", "X", "aZ09_", "goto", "End", "END", "end_", "_end", "end1", "nilnil", "truE", long, long[1:], strings.Repeat("_", 32), "n" + strings.Repeat("0", 31)} {
		if !lex.Name(s) {
			t.Errorf("14.1: Name(%q) is false", s)
		}
	}
	for _, s := range []string{"", "1a", "end", "1", "0", "9_", " ", "a ", " a", "a b", "a-b", "a.b", "a\n", "a\x00", "\x00", "é", "aé", "ａ", "a\xff", "\xff", "a\"", "'a'", "x..1", "--", long + "n", strings.Repeat("_", 33), strings.Repeat("n", 5000)} {
		if lex.Name(s) {
			t.Errorf("14.1: Name(%q) is true", s)
		}
	}
	for _, s := range reserved() {
		if lex.Name(s) {
			t.Errorf("14.1: Name(%q) is true", s)
		}
	}
	for n := range 100 {
		if got := lex.Name(strings.Repeat("n", n)); got != (n >= 1 && n <= 32) {
			t.Errorf("14.1: Name of %d letters is %v", n, got)
		}
	}
}

// Each byte in each place of a name.
func TestBytesOfNames(t *testing.T) {
	for b := range 256 {
		s := string([]byte{byte(b)})
		isFirst := isLetter(byte(b)) || b == '_'
		isLater := isFirst || isDigit(byte(b))
		if lex.Name(s) != isFirst {
			t.Errorf("14.1: Name(%q) is %v", s, !isFirst)
		}
		for _, later := range []string{"x" + s, "x" + s + "x", "_9" + s, strings.Repeat("x", 31) + s} {
			if lex.Name(later) != isLater {
				t.Errorf("14.1: Name(%q) is %v", later, !isLater)
			}
		}
	}
}

func TestExamples(t *testing.T) {
	if !lex.Word("elseif") || lex.Word("goto") {
		t.Error("14.1: the examples of Word")
	}
	if !lex.Name("_a1") || lex.Name("1a") || lex.Name("end") {
		t.Error("14.1: the examples of Name")
	}
	wantTokens(t, "x..1", name("x", 0), sign("..", 1), number(1, 3))
}

func TestSources(t *testing.T) {
	wantTokens(t, "")
	wantTokens(t, "return 1 + 2 * 3", word("return", 0), number(1, 7), sign("+", 9), number(2, 11), sign("*", 13), number(3, 15))
	wantTokens(t, "return call('INCR', KEYS[1])",
		word("return", 0), name("call", 7), sign("(", 11), text("INCR", 12), sign(",", 18),
		name("KEYS", 20), sign("[", 24), number(1, 25), sign("]", 26), sign(")", 27))
	wantTokens(t, "local t={a=\"x\";[2]=-3} -- a table\nif not t.a then\r\n\treturn #t // 4 end",
		word("local", 0), name("t", 6), sign("=", 7), sign("{", 8), name("a", 9), sign("=", 10), text("x", 11), sign(";", 14),
		sign("[", 15), number(2, 16), sign("]", 17), sign("=", 18), sign("-", 19), number(3, 20), sign("}", 21),
		word("if", 34), word("not", 37), name("t", 41), sign(".", 42), name("a", 43), word("then", 45),
		word("return", 52), sign("#", 59), name("t", 60), sign("//", 62), number(4, 65), word("end", 67))
}

func TestWordsAndNames(t *testing.T) {
	for _, s := range reserved() {
		wantTokens(t, s, word(s, 0))
		wantTokens(t, " "+s+"="+s, word(s, 1), sign("=", 1+len(s)), word(s, 2+len(s)))
		for _, other := range []string{s + "_", "_" + s, s + "1", strings.ToUpper(s), s + "X"} {
			wantTokens(t, other, name(other, 0))
		}
	}
	for _, s := range []string{"_", "__", "_1", "a", "Z", "aZ09_", "goto", "elseifs", "x0"} {
		wantTokens(t, s, name(s, 0))
		wantTokens(t, s+" "+s, name(s, 0), name(s, len(s)+1))
	}
	for n := 1; n < 100; n++ {
		for _, s := range []string{strings.Repeat("n", n), strings.Repeat("_", n), "n" + strings.Repeat("0", n-1)} {
			if n <= 32 {
				wantTokens(t, s, name(s, 0))
				wantTokens(t, s+"."+s, name(s, 0), sign(".", n), name(s, n+1))
				continue
			}
			wantWrong(t, s, 0)
			wantWrong(t, "x = "+s+" $", 4)
		}
	}
	wantWrong(t, strings.Repeat("n", api.MaxSource), 0)
}

// A name ends in front of each byte that is not one of its own.
func TestEndsOfWords(t *testing.T) {
	for b := range 256 {
		s := string([]byte{byte(b)})
		if isLetter(byte(b)) || b == '_' || isDigit(byte(b)) {
			wantTokens(t, "x"+s+";", name("x"+s, 0), sign(";", 2))
			continue
		}
		rest, err, at := lex.Lex(s + ";")
		if err != api.OK {
			wantWrong(t, "x"+s+";", 1+at)
			wantWrong(t, "12"+s+";", 2+at)
			continue
		}
		for _, front := range []api.Token{name("x", 0), number(12, 0)} {
			source := front.Text
			if front.Kind == api.TokInt {
				source = "12"
			}
			want := []api.Token{front}
			for _, token := range rest[:len(rest)-1] {
				token.At += len(source)
				want = append(want, token)
			}
			wantTokens(t, source+s+";", want...)
		}
	}
}

func TestIntegers(t *testing.T) {
	for s, n := range map[string]int64{
		"0": 0, "1": 1, "9": 9, "10": 10, "42": 42, "00": 0, "007": 7, "0000000000000000000000000000000000009": 9,
		"1234567890": 1234567890, "999999999999999999": 999999999999999999, "1000000000000000000": 1000000000000000000,
		"9223372036854775799": math.MaxInt64 - 8, "9223372036854775806": math.MaxInt64 - 1, "9223372036854775807": math.MaxInt64,
		"0009223372036854775807":                   math.MaxInt64,
		strings.Repeat("0", api.MaxSource):         0,
		strings.Repeat("0", api.MaxSource-1) + "8": 8,
	} {
		wantTokens(t, s, number(n, 0))
		if len(s) < 100 {
			wantTokens(t, "-"+s+".", sign("-", 0), number(n, 1), sign(".", 1+len(s)))
			wantTokens(t, s+".."+s, number(n, 0), sign("..", len(s)), number(n, len(s)+2))
		}
	}
	for _, s := range []string{
		"1a", "1_", "0x10", "0b1", "0o7", "1e3", "1_000", "0_", "0a", "12z", "9Z", "1and", "00x", "5_end",
		"9223372036854775808", "9223372036854775809", "9223372036854775810", "9300000000000000000", "10000000000000000000",
		"18446744073709551615", "18446744073709551616", "18446744073709551617", "36893488147419103233", "99999999999999999999999",
		"09223372036854775808", "9223372036854775807a", "9223372036854775808a", strings.Repeat("1", api.MaxSource), strings.Repeat("0", 5000) + "x",
	} {
		wantWrong(t, s, 0)
		if len(s) < 10000 {
			wantWrong(t, "-"+s, 1)
			wantWrong(t, "x "+s+" $", 2)
		}
	}
	wantTokens(t, "1 a", number(1, 0), name("a", 2))
	wantTokens(t, "1.5", number(1, 0), sign(".", 1), number(5, 2))
	wantTokens(t, "+1", sign("+", 0), number(1, 1))
}

func TestSigns(t *testing.T) {
	for _, s := range signs() {
		wantTokens(t, s, sign(s, 0))
		wantTokens(t, s+" "+s, sign(s, 0), sign(s, len(s)+1))
		wantTokens(t, "x"+s+"1", name("x", 0), sign(s, 1), number(1, 1+len(s)))
	}
	wantTokens(t, "...", sign("..", 0), sign(".", 2))
	wantTokens(t, "....", sign("..", 0), sign("..", 2))
	wantTokens(t, "===", sign("==", 0), sign("=", 2))
	wantTokens(t, "<==", sign("<=", 0), sign("=", 2))
	wantTokens(t, "<>=", sign("<", 0), sign(">=", 1))
	wantTokens(t, "=~=", sign("=", 0), sign("~=", 1))
	wantTokens(t, "= =", sign("=", 0), sign("=", 2))
	wantTokens(t, "////", sign("//", 0), sign("//", 2))
	wantTokens(t, "- -", sign("-", 0), sign("-", 2))
	wantTokens(t, ";;", sign(";", 0), sign(";", 1))
	wantWrong(t, "///", 2)
	wantWrong(t, "~", 0)
	wantWrong(t, "~~=", 0)
	wantWrong(t, "/", 0)
	wantWrong(t, "1 / 2", 2)
	wantWrong(t, "a ~ = b", 2)
	wantWrong(t, "a != b", 2)
	var want []api.Token
	for at := 0; at < api.MaxSource; at += 2 {
		want = append(want, sign("..", at))
	}
	wantTokens(t, strings.Repeat(".", api.MaxSource), want...)
}

// Each byte alone is a blank, a token, or wrong; of two signs only certain ones are one.
func TestBytes(t *testing.T) {
	for b := range 256 {
		s := string([]byte{byte(b)})
		switch {
		case b == 32 || b == 9 || b == 10 || b == 13:
			wantTokens(t, s)
			wantTokens(t, s+s+"x"+s, name("x", 2))
		case isLetter(byte(b)) || b == '_':
			wantTokens(t, s, name(s, 0))
		case isDigit(byte(b)):
			wantTokens(t, s, number(int64(b-'0'), 0))
		case slices.Contains(signs(), s):
			wantTokens(t, s, sign(s, 0))
			wantTokens(t, ";"+s+";", sign(";", 0), sign(s, 1), sign(";", 2))
		default:
			wantWrong(t, s, 0)
			wantWrong(t, "x "+s, 2)
			wantWrong(t, "x\n"+s+"x", 2)
		}
	}
}

func TestComments(t *testing.T) {
	wantTokens(t, "--")
	wantTokens(t, "-- $ ~ \" ' \\ \xff\x00 1a")
	wantTokens(t, "---")
	wantTokens(t, "--[[ x ]]")
	wantTokens(t, "--\n--\n\n--")
	wantTokens(t, "-- x\ny", name("y", 5))
	wantTokens(t, "x--y\nz", name("x", 0), name("z", 5))
	wantTokens(t, "1--1", number(1, 0))
	wantTokens(t, "1--1\n-1", number(1, 0), sign("-", 5), number(1, 6))
	wantTokens(t, "end--\nend", word("end", 0), word("end", 6))
	wantTokens(t, ".--.\n.", sign(".", 0), sign(".", 5))
	wantTokens(t, "---\n-", sign("-", 4))
	wantTokens(t, "- --", sign("-", 0))
	wantTokens(t, "-\n-", sign("-", 0), sign("-", 2))
	wantTokens(t, "'--'--'\n", text("--", 0))
	wantTokens(t, "--\rx\ty z\r\nw", name("w", 10))
	wantTokens(t, "--"+strings.Repeat("x", api.MaxSource-2))
	wantTokens(t, "--"+strings.Repeat("x", api.MaxSource-4)+"\n;", sign(";", api.MaxSource-1))
	wantWrong(t, "--\n$", 3)
	wantWrong(t, "x --\n~--\n~", 5)
	wantWrong(t, "-- \\\n\\", 5)
}

func TestTooLongSources(t *testing.T) {
	for _, part := range []string{" ", ";", "x\n", "'", "$", "--", "1", "\"", "\\", "\xff", "ab cd"} {
		s := strings.Repeat(part, 2*api.MaxSource)
		for _, n := range []int{api.MaxSource + 1, api.MaxSource + 2, api.MaxSource + 256, 2 * api.MaxSource} {
			wantError(t, s[:n], api.ErrLimit, 0)
		}
	}
	wantTokens(t, strings.Repeat(" ", api.MaxSource))
	wantTokens(t, strings.Repeat("\n", api.MaxSource-1)+"x", name("x", api.MaxSource-1))
	wantWrong(t, strings.Repeat(" ", api.MaxSource-1)+"$", api.MaxSource-1)
	wantWrong(t, strings.Repeat(" ", api.MaxSource-1)+"'", api.MaxSource-1)
	wantError(t, "$"+strings.Repeat(" ", api.MaxSource), api.ErrLimit, 0)
	var want []api.Token
	for at := range api.MaxSource {
		want = append(want, sign(";", at))
	}
	wantTokens(t, strings.Repeat(";", api.MaxSource), want...)
}

// The first wrong token is told, whatever comes behind it, and no token in front of it.
func TestFirstWrongToken(t *testing.T) {
	wrong := []string{"$", "~", "/ ", "1a", "9223372036854775808", "'", "\"x", "'\\q'", "'\\x4'", "'\n'", strings.Repeat("n", 33), "'" + strings.Repeat("s", api.MaxText+1) + "'", "\x00", "é", "!", "\\", "?"}
	for _, first := range wrong {
		wantWrong(t, first, 0)
		for _, front := range []string{" ", "x ", "x = 1\n", "'a' ", "-- $\n", "end;;..", "\t\r\n\"\\\"\" "} {
			wantWrong(t, front+first, len(front))
			for _, second := range wrong {
				wantWrong(t, front+first+"\n"+second, len(front))
				wantWrong(t, front+first+"\n"+second+" x", len(front))
			}
		}
	}
}

// Tokens have their own memory, and each call makes new ones.
func TestLexKeepsNothing(t *testing.T) {
	s := strings.Clone("local name = 'string' .. \"a\\\"b\" // 5")
	first, _, _ := lex.Lex(s)
	want := slices.Clone(first)
	second, _, _ := lex.Lex(s)
	clear(second[:cap(second)])
	third, _, _ := lex.Lex(s)
	if !slices.Equal(first, want) || !slices.Equal(third, want) {
		t.Errorf("14.2: tokens changed: %v, %v, want %v", first, third, want)
	}
	from := uintptr(unsafe.Pointer(unsafe.StringData(s)))
	for _, token := range first {
		at := uintptr(unsafe.Pointer(unsafe.StringData(token.Text)))
		if token.Text != "" && at >= from && at < from+uintptr(len(s)) {
			t.Errorf("14.2: the token %v shares memory with its source", token)
		}
	}
}
