package lex_test

import (
	"fmt"
	"math/big"
	"regexp"
	"slices"
	"strings"
	"testing"

	"scriptorium/api"
	"scriptorium/lex"
)

// What stands at the beginning of a rest of a source, by the words of 14.2. A string
// that has no end, or a wrong inside, does not match.
var (
	blanks  = regexp.MustCompile(`^(?:[ \t\n\r]|--[^\n]*)+`)
	words   = regexp.MustCompile(`^[A-Za-z_][A-Za-z0-9_]*`)
	numbers = regexp.MustCompile(`^[0-9][A-Za-z0-9_]*`)
	inside  = `\\[nt\\"']|\\x[0-9a-fA-F][0-9a-fA-F]`
	texts   = regexp.MustCompile(`^(?:"(?:[^"\\\n]|` + inside + `)*"|'(?:[^'\\\n]|` + inside + `)*')`)
	escapes = regexp.MustCompile(inside)
)

// modelSign is the longest sign in front of s.
func modelSign(s string) string {
	longest := ""
	for _, sign := range signs() {
		if strings.HasPrefix(s, sign) && len(sign) > len(longest) {
			longest = sign
		}
	}
	return longest
}

func modelEscape(s string) string {
	switch s[1] {
	case 'n':
		return "\n"
	case 't':
		return "\t"
	case 'x':
		var n int
		fmt.Sscanf(s[2:], "%x", &n)
		return string([]byte{byte(n)})
	}
	return s[1:]
}

// modelToken is the token in front of s, which does not begin with a blank, and its
// length; false if it is wrong.
func modelToken(s string) (api.Token, int, bool) {
	if w := words.FindString(s); w != "" {
		if slices.Contains(reserved(), w) {
			return word(w, 0), len(w), true
		}
		return name(w, 0), len(w), len(w) <= 32
	}
	if w := numbers.FindString(s); w != "" {
		n, ok := new(big.Int).SetString(w, 10)
		if !ok || strings.Contains(w, "_") || !n.IsInt64() {
			return api.Token{}, 0, false
		}
		return number(n.Int64(), 0), len(w), true
	}
	if w := texts.FindString(s); w != "" {
		denoted := escapes.ReplaceAllStringFunc(w[1:len(w)-1], modelEscape)
		return text(denoted, 0), len(w), len(denoted) <= api.MaxText
	}
	w := modelSign(s)
	return sign(w, 0), len(w), w != ""
}

func model(s string) ([]api.Token, int, int) {
	if len(s) > 16384 {
		return nil, api.ErrLimit, 0
	}
	var l []api.Token
	for at := 0; ; {
		at += len(blanks.FindString(s[at:]))
		if at == len(s) {
			return append(l, end(at)), api.OK, 0
		}
		token, size, ok := modelToken(s[at:])
		if !ok {
			return nil, api.ErrSource, at
		}
		token.At = at
		l = append(l, token)
		at += size
	}
}

// holdAgainstModel returns what Lex does.
func holdAgainstModel(t *testing.T, s string) ([]api.Token, int) {
	t.Helper()
	got, err, at := lex.Lex(s)
	want, wantErr, wantAt := model(s)
	if err != wantErr || at != wantAt || !slices.Equal(got, want) {
		t.Fatalf("14.2: Lex(%.300q): %s, %d, %d, want %s, %d, %d", s, show(got), err, at, show(want), wantErr, wantAt)
	}
	return got, err
}

// All sources of a few bytes, of which each means something.
func TestShortSources(t *testing.T) {
	letters := "anx09_\"'\\-.=~</; \n\r\xff"
	sources := []string{""}
	for from := 0; len(sources[from]) < 4; from++ {
		for i := range len(letters) {
			sources = append(sources, sources[from]+letters[i:i+1])
		}
	}
	for _, s := range sources {
		holdAgainstModel(t, s)
	}
}

func TestPairsOfBytes(t *testing.T) {
	for pair := range 1 << 16 {
		s := string([]byte{byte(pair >> 8), byte(pair)})
		holdAgainstModel(t, s)
		holdAgainstModel(t, "x "+s+" y")
	}
}

// chance gives the same numbers each time.
type chance uint64

func newChance() *chance {
	c := chance(88172645463325252)
	return &c
}

func (c *chance) below(n int) int {
	*c ^= *c << 13
	*c ^= *c >> 7
	*c ^= *c << 17
	return int(uint64(*c) >> 20 % uint64(n))
}

func (c *chance) of(l []string) string { return l[c.below(len(l))] }

func (c *chance) bytes(count int) string {
	b := make([]byte, count)
	for i := range b {
		b[i] = byte(c.below(256))
	}
	return string(b)
}

func (c *chance) word() string {
	const letters = "abcdefghijklmnopqrstuvwxyzABCDEFGHIJKLMNOPQRSTUVWXYZ_0123456789"
	b := []byte{letters[c.below(53)]}
	for range c.below(32) {
		b = append(b, letters[c.below(len(letters))])
	}
	return string(b)
}

func (c *chance) text() string {
	mark := c.of(marks())
	s := mark
	for range c.below(9) {
		s += c.of([]string{"a", " ", "--", "\xff", "\x00", "\r", "é", `\n`, `\t`, `\\`, `\"`, `\'`, `\x4a`, `\xFF`, `\x00`})
	}
	return s + mark
}

// token is the source of one token.
func (c *chance) token() string {
	switch c.below(5) {
	case 0:
		return c.of(reserved())
	case 1:
		return c.word()
	case 2:
		return strings.Repeat("0", c.below(3)) + fmt.Sprint(uint64(c.below(1<<44))<<c.below(20))
	case 3:
		return c.text()
	}
	return c.of(signs())
}

// blank is one blank, or several, or comments as well.
func (c *chance) blank() string {
	s := c.of([]string{" ", "\t", "\n", "\r"})
	for range c.below(4) {
		s += c.of([]string{" ", "\t", "\n", "\r", "\r\n", "--\n", "-- $ 'x \" \\ --\n", "--\x00\xff\r\n"})
	}
	return s
}

// source is one of up to so many tokens, with or without blanks between them.
func (c *chance) source(bound int) string {
	var s string
	for range c.below(bound) {
		if c.below(4) > 0 {
			s += c.blank()
		}
		s += c.token()
	}
	return s
}

func TestSourcesOfTokens(t *testing.T) {
	c := newChance()
	right := 0
	for range 20000 {
		if _, err := holdAgainstModel(t, c.source(12)); err == api.OK {
			right++
		}
	}
	if right < 5000 || right > 19000 {
		t.Errorf("14.2: %d of 20000 sources are right", right)
	}
}

// Sources that are cut off, or of which a byte is turned, put in or left out.
func TestDamagedSources(t *testing.T) {
	c := newChance()
	for range 5000 {
		s := c.source(8) + " "
		at := c.below(len(s))
		for _, damaged := range []string{s[:at], s[at:], s[:at] + c.bytes(1) + s[at:], s[:at] + s[at+1:], s[:at] + c.bytes(1) + s[at+1:], s[:at] + c.of([]string{"'", "\"", "\\", "\n", "--"}) + s[at:]} {
			holdAgainstModel(t, damaged)
		}
	}
}

func TestSourcesOfAnyBytes(t *testing.T) {
	c := newChance()
	for n := range 3000 {
		holdAgainstModel(t, c.bytes(n%40))
	}
	for n := 16000; n < 16500; n += 7 {
		holdAgainstModel(t, c.bytes(n))
		holdAgainstModel(t, strings.Repeat(c.blank(), n)[:n])
		holdAgainstModel(t, strings.Repeat(c.word()+" ", n)[:n])
	}
}

// divided are the sources of all tokens of s but the last one, with the blanks in front
// of each, and the blanks at the end.
func divided(s string, l []api.Token) (sources, gaps []string) {
	at := 0
	for _, token := range l[:len(l)-1] {
		gaps = append(gaps, s[at:token.At])
		_, size, _ := modelToken(s[token.At:])
		sources = append(sources, s[token.At:token.At+size])
		at = token.At + size
	}
	return sources, append(gaps, s[at:])
}

// wantPlaced asks for the same tokens, at the places where these sources stand behind
// these blanks.
func wantPlaced(t *testing.T, before []api.Token, sources, gaps []string) {
	t.Helper()
	s, want := "", slices.Clone(before)
	for i, gap := range gaps {
		s += gap
		want[i].At = len(s)
		if i < len(sources) {
			s += sources[i]
		}
	}
	if got, err, _ := lex.Lex(s); err != api.OK || !slices.Equal(got, want) {
		t.Fatalf("14.3: Lex(%.300q): %s, %d, want %s", s, show(got), err, show(want))
	}
}

// Where there are blanks, others may be, and where there are none, some may be.
func TestBlanksChangeOnlyPlaces(t *testing.T) {
	c := newChance()
	for range 5000 {
		s := c.source(9)
		before, err, _ := lex.Lex(s)
		if err != api.OK {
			continue
		}
		sources, gaps := divided(s, before)
		wantPlaced(t, before, sources, gaps)
		for i := range gaps {
			other := slices.Clone(gaps)
			other[i] = c.blank()
			wantPlaced(t, before, sources, other)
			for j := range other {
				other[j] = c.blank()
			}
			wantPlaced(t, before, sources, other)
		}
	}
}

func TestEachBlankBetweenTokens(t *testing.T) {
	s := "return f(x..1,'a')//-2==#t.n"
	before, _, _ := lex.Lex(s)
	sources, gaps := divided(s, before)
	if len(sources) != 17 {
		t.Fatalf("14.3: %d tokens", len(sources))
	}
	for _, blank := range []string{" ", "\t", "\n", "\r", "  ", "\r\n", "\n\n\t ", " --\n", " -- x\n", " --'\n--\"\n\t"} {
		for i := range gaps {
			other := slices.Clone(gaps)
			other[i] = blank
			wantPlaced(t, before, sources, other)
		}
		wantPlaced(t, before, sources, slices.Repeat([]string{blank}, len(gaps)))
	}
}
