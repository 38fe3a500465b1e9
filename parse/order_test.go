package parse_test

import (
	"slices"
	"strings"
	"testing"

	"scriptorium/api"
	"scriptorium/parse"
)

// chance gives the same numbers each time.
type chance uint64

func newChance() *chance {
	c := chance(88172645463325252)
	return &c
}

func (c *chance) below(n int) int {
	*c ^= *c << 13
	*c ^= *c >> 7
	*c ^= *c << 17
	return int(uint64(*c) >> 20 % uint64(n))
}

func pick[T any](c *chance, l []T) T {
	return l[c.below(len(l))]
}

// written is a token of a source.
func written(mark string) string {
	switch mark {
	case "NAME":
		return "x"
	case "INT":
		return "1"
	case "STRING":
		return "'='"
	}
	return strings.Trim(mark, "'")
}

// sourceOf returns the source of tokens, with a blank behind each.
func sourceOf(l []string) string {
	var b strings.Builder
	for _, mark := range l {
		b.WriteString(written(mark) + " ")
	}
	return b.String()
}

func withoutEnd(l []string) []string {
	return slices.DeleteFunc(l, func(mark string) bool { return mark == "END" })
}

// wantNext asks of each token what happens if it follows those of l, which are allowed:
// it is refused, or else the end behind it, if this is not allowed either.
func wantNext(t *testing.T, l []string, s states) {
	t.Helper()
	before := sourceOf(l)
	allowed := s.allowed()
	for _, mark := range marks() {
		source := before + written(mark) + " "
		block, err, at := parse.Script(source)
		wantErr, wantAt := api.ErrSource, len(before)
		if slices.Contains(allowed, mark) {
			wantErr, wantAt = api.OK, 0
			if !slices.Contains(s.take(mark).allowed(), "END") {
				wantErr, wantAt = api.ErrSource, len(source)
			}
		}
		if err != wantErr || at != wantAt || err != api.OK && len(block) > 0 {
			t.Fatalf("16.2: Script(%q) is %d, %d, want %d, %d", source, err, at, wantErr, wantAt)
		}
	}
}

// All beginnings of right scripts, with any token behind them.
func TestFirstTokens(t *testing.T) {
	most := 3
	if testing.Short() {
		most = 2
	}
	var visit func([]string, states)
	visit = func(l []string, s states) {
		wantNext(t, l, s)
		if len(l) == most {
			return
		}
		for _, mark := range withoutEnd(s.allowed()) {
			visit(append(slices.Clip(l), mark), s.take(mark))
		}
	}
	visit(nil, begin())
}

// Long beginnings of right scripts, with any token behind them.
func TestNextTokens(t *testing.T) {
	c := newChance()
	for range 80 {
		var l []string
		s := begin()
		for range 40 {
			if allowed := withoutEnd(s.allowed()); len(allowed) > 0 {
				mark := pick(c, allowed)
				l, s = append(l, mark), s.take(mark)
				wantNext(t, l, s)
			}
		}
	}
}

// The first error, whatever follows it.
func TestFirstError(t *testing.T) {
	c := newChance()
	for range 6000 {
		var l []string
		for range 1 + c.below(12) {
			l = append(l, pick(c, marks()))
		}
		s := begin()
		n := 0
		for n < len(l) && slices.Contains(s.allowed(), l[n]) {
			s = s.take(l[n])
			n++
		}
		if n == len(l) && slices.Contains(s.allowed(), "END") {
			wantRight(t, sourceOf(l))
			continue
		}
		wantError(t, sourceOf(l), api.ErrSource, len(sourceOf(l[:n])))
	}
}

// What a string or a name is called says nothing of what it is: a string that reads like
// a word or a sign is allowed where any other string is.
func TestStringsLikeMarks(t *testing.T) {
	c := newChance()
	for range 300 {
		var l []string
		s := begin()
		for range 20 {
			if allowed := withoutEnd(s.allowed()); len(allowed) > 0 {
				l = append(l, pick(c, allowed))
				s = s.take(l[len(l)-1])
			}
		}
		for n := range l {
			for _, mark := range []string{l[n], pick(c, marks())} {
				text := written(mark)
				if mark == "STRING" {
					continue
				}
				before, after := sourceOf(l[:n])+"'", "' "+sourceOf(l[n+1:])
				_, err, at := parse.Script(before + text + after)
				_, wantErr, wantAt := parse.Script(before + strings.Repeat("q", len(text)) + after)
				if err != wantErr || at != wantAt {
					t.Fatalf("16.1: Script(%q) is %d, %d, and with another text %d, %d", before+text+after, err, at, wantErr, wantAt)
				}
			}
		}
	}
	wantError(t, "x = 1 '+' 2", api.ErrSource, 6)
	wantError(t, "x = '-' 1", api.ErrSource, 8)
	wantError(t, "x '=' 1", api.ErrSource, 2)
	wantError(t, "do 'end'", api.ErrSource, 3)
	wantError(t, "x = 'not' 1", api.ErrSource, 10)
	wantTree(t, "x = {'a', 'x' == '='}", `set@0(name@0"x" table@4(int@5#1/1 string@5"a" int@10#2/1 binary@14/7(string@10"x" string@17"=")))`)
	wantError(t, "x = {a '=' 1}", api.ErrSource, 7)
}

func TestMarks(t *testing.T) {
	if n := len(marks()); n != 47 {
		t.Fatalf("the grammar has %d tokens, %q", n, marks())
	}
}
