package lex_test

import (
	"fmt"
	"strings"
	"testing"

	"scriptorium/api"
)

func marks() []string { return []string{"\"", "'"} }

// wantText holds the string with this inside, in both sorts of quotation marks,
// against what it denotes.
func wantText(t *testing.T, inside, want string) {
	t.Helper()
	for _, mark := range marks() {
		source := mark + inside + mark
		wantTokens(t, source, text(want, 0))
		if len(source) < 1000 {
			wantTokens(t, "x"+source+source+"y", name("x", 0), text(want, 1), text(want, 1+len(source)), name("y", 1+2*len(source)))
		}
	}
}

func wantNoText(t *testing.T, inside string) {
	t.Helper()
	for _, mark := range marks() {
		wantWrong(t, mark+inside+mark, 0)
		wantWrong(t, ";; "+mark+inside+mark+" x", 3)
	}
}

func TestStrings(t *testing.T) {
	wantText(t, "", "")
	wantText(t, "abc", "abc")
	wantText(t, " a  b\t\r", " a  b\t\r")
	wantText(t, "-- no comment", "-- no comment")
	wantText(t, "é\xff\x00\x80", "é\xff\x00\x80")
	wantText(t, "end 1a $ ~", "end 1a $ ~")
	wantText(t, `\n`, "\n")
	wantText(t, `\t`, "\t")
	wantText(t, `\\`, `\`)
	wantText(t, `\"`, `"`)
	wantText(t, `\'`, `'`)
	wantText(t, `a\nb\tc\\d\"e\'f\x41g`, "a\nb\tc\\d\"e'fAg")
	wantText(t, `\\n`, `\n`)
	wantText(t, `\\\n`, "\\\n")
	wantText(t, `\\\\`, `\\`)
	wantText(t, `\x41\x42`, "AB")
	wantText(t, `\x4142`, "A42")
	wantText(t, `\x0a\x0A\x00\xff\xFf\x5c\x22\x27`, "\n\n\x00\xff\xff\\\"'")
	wantText(t, `\x5cn`, `\n`)
	wantTokens(t, `"it's"`, text("it's", 0))
	wantTokens(t, `'say "a"'`, text(`say "a"`, 0))
	wantTokens(t, `"a"'b'"c"`, text("a", 0), text("b", 3), text("c", 6))
	wantTokens(t, `""''`, text("", 0), text("", 2))
	wantTokens(t, `'a'b'c'`, text("a", 0), name("b", 3), text("c", 4))
	wantTokens(t, `"1"2`, text("1", 0), number(2, 3))
}

// Each byte in a string stands for itself, but for three.
func TestBytesOfStrings(t *testing.T) {
	for b := range 256 {
		s := string([]byte{byte(b)})
		for _, mark := range marks() {
			switch s {
			case mark:
				wantTokens(t, mark+s, text("", 0))
				wantWrong(t, mark+s+mark, 2)
			case "\\":
				wantWrong(t, mark+s+mark, 0)
			case "\n":
				wantWrong(t, mark+s+mark, 0)
				wantWrong(t, "x "+mark+"ab"+s+"cd"+mark, 2)
			default:
				wantTokens(t, mark+s+mark, text(s, 0))
				wantTokens(t, " "+mark+"ab"+s+"cd"+s+mark+";", text("ab"+s+"cd"+s, 1), sign(";", 9))
			}
		}
	}
}

// Each byte behind a \ .
func TestEscapes(t *testing.T) {
	denoted := map[byte]string{'n': "\n", 't': "\t", '\\': "\\", '"': "\"", '\'': "'"}
	for b := range 256 {
		inside := string([]byte{'\\', byte(b)})
		if want, ok := denoted[byte(b)]; ok {
			wantText(t, inside, want)
			wantText(t, "ab"+inside+"cd"+inside, "ab"+want+"cd"+want)
			continue
		}
		wantNoText(t, inside)
		wantNoText(t, "ab"+inside+"gh")
		wantNoText(t, "\\n"+inside+" ")
		wantNoText(t, "\\"+"\\"+inside)
	}
}

// All pairs of bytes behind \x: only two hexadecimal digits are a byte.
func TestHexadecimalEscapes(t *testing.T) {
	count := 0
	for pair := range 1 << 16 {
		digits := string([]byte{byte(pair >> 8), byte(pair)})
		var n int
		if len(strings.Trim(digits, "0123456789abcdefABCDEF")) > 0 {
			for _, mark := range marks() {
				wantWrong(t, mark+`\x`+digits+mark, 0)
			}
			continue
		}
		count++
		fmt.Sscanf(digits, "%x", &n)
		wantText(t, `\x`+digits, string([]byte{byte(n)}))
	}
	if count != 22*22 {
		t.Errorf("14.2: %d pairs are a byte", count)
	}
	for _, inside := range []string{`\x`, `\x4`, `\x4 `, `\x 4`, `\x4g`, `\xg4`, `\X41`, `\x+1`, `\x-1`, `\x0x`, `\x_1`, `\x1_`} {
		wantNoText(t, inside)
	}
}

// A source that ends within a string, wherever this is.
func TestStringsWithoutEnd(t *testing.T) {
	for _, whole := range []string{`"abc"`, `'a\nb'`, `"\x41"`, `"a'b"`, `'\\'`, `"\""`, `'\''`, `"--"`} {
		for n := 1; n < len(whole); n++ {
			wantWrong(t, whole[:n], 0)
			wantWrong(t, "x ="+whole[:n], 3)
			wantWrong(t, whole[:n]+"\n"+whole[n:], 0)
			wantWrong(t, whole+whole[:n], len(whole))
		}
	}
	wantWrong(t, `"a'`, 0)
	wantWrong(t, `'a"`, 0)
	wantWrong(t, `"a" "b`, 4)
	wantWrong(t, "'a\\\nb'", 0)
	wantWrong(t, "'"+strings.Repeat("x", api.MaxSource-1), 0)
	wantWrong(t, "'"+strings.Repeat("\\'", api.MaxSource/2-1)+"x", 0)
}

// What counts is the number of bytes that are denoted.
func TestLongestStrings(t *testing.T) {
	for inside, denoted := range map[string]string{"x": "x", " ": " ", "\xff": "\xff", `\n`: "\n", `\\`: `\`, `\'`: `'`} {
		for _, n := range []int{1, 255, 256, 4094, 4095, 4096} {
			wantText(t, strings.Repeat(inside, n), strings.Repeat(denoted, n))
		}
		for _, n := range []int{4097, 4098, 5000, 8180} {
			wantNoText(t, strings.Repeat(inside, n))
		}
	}
	const rest = (api.MaxSource - 2) / 4
	wantText(t, strings.Repeat(`\x41`, rest), strings.Repeat("A", rest))
	wantText(t, strings.Repeat(`\x41`, 4000)+strings.Repeat("y", 96), strings.Repeat("A", 4000)+strings.Repeat("y", 96))
	wantNoText(t, strings.Repeat(`\x41`, 4000)+strings.Repeat("y", 97))
	wantText(t, strings.Repeat("y", 4095)+`\x41`, strings.Repeat("y", 4095)+"A")
	wantNoText(t, strings.Repeat("y", 4096)+`\x41`)
	longest := "'" + strings.Repeat("x", api.MaxText) + "'"
	wantTokens(t, longest+longest, text(longest[1:api.MaxText+1], 0), text(longest[1:api.MaxText+1], len(longest)))
}
