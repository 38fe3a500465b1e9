package parse_test

import (
	"slices"
	"strings"
	"testing"

	"scriptorium/api"
	"scriptorium/parse"
	"scriptorium/tree"
)

// Sources with a hole: ?B for a block, ?E for an expression, ?J for a join and ?U for a
// unary. In front of each thing that counts for the depth stands ^; it is one deeper than
// what the source itself stands in.
func withHoles(hole byte) []string {
	units := []string{
		"(^?E)", "(^?E)[^1]", "(^1)[^?E]", "(^1)(^?E)", "- ^?U", "# ^?U", "not ^?U", "x[^?E]", "x.y[^?E].z", "f(^?E)", "f(^1, ^?E)", "f(^1)(^?E, ^1)",
		"{^?E}", "{^1, ^?E;}", "{x = ^?E}", "{[^?E] = ^1}", "{[^1] = ^?E}", "function() ^?B end", "function(a, b) ^?B end",
	}
	joins := append(units, "1 .. ^?J", "?U .. ^1", "1 + ?U", "?U - 1", "1 * ?U", "?U % 1 // 1", "1 + 1 .. ^?J")
	exps := append(joins, "1 == ?J", "?J < 1", "?J and 1", "1 and ?J", "1 or ?J", "?J or 1 and 1", "1 or 1 and 1 == 1 .. ^?J")
	switch hole {
	case 'U':
		return units
	case 'J':
		return joins[:len(joins):len(joins)]
	case 'E':
		return exps
	}
	return []string{
		"do ^?B end", "if ^?E then ^end", "if ^1 then ^?B end", "if ^1 then ^elseif ^?E then ^end", "if ^1 then ^elseif ^1 then ^?B end", "if ^1 then ^else ^?B end", "if ^1 then ^?B else ^break end",
		"while ^?E do ^end", "while ^1 do ^?B end", "repeat ^?B until ^1", "repeat ^until ^?E",
		"for i = ^?E, ^1 do ^end", "for i = ^1, ^?E do ^end", "for i = ^1, ^1, ^?E do ^end", "for i = ^1, ^1 do ^?B end", "for i = ^1, ^1, ^1 do ^?B end",
		"for k, v in ^?E do ^end", "for k, v in ^1 do ^?B end", "local x = ^?E", "local function f() ^?B end", "local function f(a) ^?B end",
		"x = ^?E", "x[^?E] = ^1", "x[^1].y = ^?E", "f(^?E)", "f(^1, ^?E) f()", "x[^?E]()", "return ^?E", "return ^?E;", "f() do ^?B end; break",
	}
}

// nested is a source in the making: the source with ^ and ?, and how deep each ^ is.
type nested struct {
	text  string
	deeps []int
	base  int // of the hole
}

// hole is what has to stand in the hole.
func (n nested) hole() byte {
	return n.text[strings.Index(n.text, "?")+1]
}

// fill puts a text with ^ into the hole, that may have a hole itself.
func (n nested) fill(text string) nested {
	before, after, _ := strings.Cut(n.text, "?")
	made := nested{base: n.base}
	inFront := strings.Count(before, "^")
	made.deeps = slices.Clone(n.deeps[:inFront])
	for range strings.Count(text, "^") {
		made.deeps = append(made.deeps, n.base+1)
	}
	made.deeps = append(made.deeps, n.deeps[inFront:]...)
	if strings.Contains(text, "^?") {
		made.base++
	}
	made.text = before + text + after[1:]
	return made
}

// source returns the source without marks, and the first place at which it is too deep,
// or -1.
func (n nested) source() (string, int) {
	var b strings.Builder
	first := -1
	wanted := false
	marks := 0
	for i := range len(n.text) {
		switch c := n.text[i]; {
		case c == '^':
			wanted = wanted || n.deeps[marks] > 100
			marks++
		default:
			if wanted && first < 0 && c != ' ' {
				first = b.Len()
			}
			b.WriteByte(c)
		}
	}
	if wanted && first < 0 {
		first = b.Len()
	}
	return b.String(), first
}

func newNested() nested {
	return nested{text: "^?B", deeps: []int{1}, base: 1}
}

// wantNested fills the hole with something right, something wrong and the end of all.
func wantNested(t *testing.T, n nested) {
	t.Helper()
	source, tooDeep := n.fill(leafOf(n)).source()
	wantFirst(t, source, tooDeep, -1)
	source, tooDeep = n.fill("!").source()
	wrong := strings.Index(source, "!")
	wantFirst(t, strings.Replace(source, "!", "=", 1), tooDeep, wrong)
	if !strings.HasSuffix(source[:wrong], "return ") {
		wantFirst(t, source[:wrong], tooDeep, wrong)
	}
	if n.hole() == 'B' {
		source, tooDeep = n.fill("").source()
		wantFirst(t, source, tooDeep, -1)
	}
}

func leafOf(n nested) string {
	if n.hole() == 'B' {
		return "break"
	}
	return "1"
}

// wantFirst asks for the first one of two errors, neither of which has to be there, and
// for the limit where they are at one place.
func wantFirst(t *testing.T, source string, tooDeep, wrong int) {
	t.Helper()
	l, err, at := parse.Script(source)
	wantErr, wantAt := api.OK, 0
	if tooDeep >= 0 && (wrong < 0 || tooDeep <= wrong) {
		wantErr, wantAt = api.ErrLimit, tooDeep
	} else if wrong >= 0 {
		wantErr, wantAt = api.ErrSource, wrong
	}
	if err != wantErr || at != wantAt || err != api.OK && len(l) > 0 {
		t.Fatalf("16.2: Script(%.1000q) is %d, %d, want %d, %d", source, err, at, wantErr, wantAt)
	}
}

// All ways of nesting, in any order, up to the limit and beyond it.
func TestDepths(t *testing.T) {
	c := newChance()
	for range 3000 {
		n := newNested()
		for most := 90 + c.below(13); n.base < most; {
			n = n.fill(pick(c, withHoles(n.hole())))
		}
		wantNested(t, n)
	}
}

// Each way of nesting behind a depth that is reached by parentheses, or by do, only.
func TestDepthOfEach(t *testing.T) {
	for _, hole := range []byte("BEJU") {
		for _, text := range withHoles(hole) {
			for most := 97; most <= 101; most++ {
				wantNested(t, upTo(most, hole).fill(text))
			}
		}
	}
	for most := 97; most <= 101; most++ {
		for _, hole := range []byte("BEJU") {
			wantNested(t, upTo(most, hole))
		}
	}
}

// upTo is a source with a hole at this depth.
func upTo(most int, hole byte) nested {
	n := newNested()
	if hole == 'B' {
		for n.base < most {
			n = n.fill("do ^?B end")
		}
		return n
	}
	n = n.fill("x = ^?E")
	for n.base < most-1 {
		n = n.fill("(^?E)")
	}
	switch hole {
	case 'J':
		return n.fill("1 .. ^?J")
	case 'U':
		return n.fill("- ^?U")
	}
	return n.fill("{^?E}")
}

// Each way of nesting within itself, as far as it goes, and with parentheses or do
// in between where it asks for something else.
func TestDepthOfOne(t *testing.T) {
	for _, hole := range []byte("BEJU") {
		for _, text := range withHoles(hole) {
			for most := 99; most <= 102; most++ {
				n := upTo(2, 'B')
				for n.base < most && strings.Contains(text, "^?") {
					n = n.fill(between(n.hole(), hole)).fill(text)
				}
				wantNested(t, n)
			}
		}
	}
}

// between leads from one hole to another.
func between(from, to byte) string {
	switch {
	case from == to:
		return "?" + string(to)
	case from == 'B':
		return "x = ^?E"
	case to == 'B':
		return "function() ^?B end"
	}
	return "(^?E)"
}

// What has been left counts no longer.
func TestDepthOfNeighbours(t *testing.T) {
	for _, hole := range []byte("BEJU") {
		for _, text := range withHoles(hole) {
			n := newNested()
			if hole == 'B' {
				n = n.fill("do ^?B end").fill(text)
			} else {
				n = n.fill("x = ^?E").fill(text)
			}
			source, _ := n.fill(leafOf(n)).source()
			l := wantRight(t, strings.Repeat(source+" ", 200))
			if len(l) != 200 {
				t.Fatalf("16.1: 200 times %q are %d statements", source, len(l))
			}
		}
	}
	for _, part := range []string{"(1)", "- 1", "not 1", "# 1", "f(1)", "f(1, 1)", "x[1]", "{1}", "{x = 1}", "{[1] = 1}", "function() end", "function() return 1 end", "(1 .. 1)"} {
		for _, sign := range []string{"+", "*", "==", "and", "or"} {
			wantRight(t, "x = 1"+strings.Repeat(" "+sign+" "+part, 300))
		}
	}
	for _, part := range []string{".x", "[1]", "()", "(1)", "(1, 1)"} {
		wantRight(t, "x"+strings.Repeat(part, 300)+".x = 1")
		wantRight(t, "x = (1)"+strings.Repeat(part, 300))
	}
	wantRight(t, "x = "+strings.Repeat("1 .. 1 == ", 300)+"1")
	wantRight(t, "if 1 then "+strings.Repeat("elseif (1) then x = 1 ", 300)+"else end")
}

// 16.3, for each way of nesting up to a Deep of 40.
func TestBackFromDepths(t *testing.T) {
	c := newChance()
	deepest := 0
	for range 1000 {
		n := newNested()
		var l []api.Stat
		for most := 1 + c.below(50); n.base < most; {
			next := n.fill(pick(c, withHoles(n.hole())))
			source, _ := next.fill(leafOf(next)).source()
			block := wantRight(t, source)
			if tree.Deep(block) > 40 {
				break
			}
			n, l = next, block
		}
		wantBack(t, l)
		deepest = max(deepest, tree.Deep(l))
	}
	if deepest != 40 {
		t.Fatalf("the deepest one is only %d deep", deepest)
	}
}

// 16.3, for each way of nesting within itself.
func TestBackFromOne(t *testing.T) {
	for _, hole := range []byte("BEJU") {
		for _, text := range withHoles(hole) {
			n := upTo(2, 'B')
			for range 40 {
				next := n.fill(between(n.hole(), hole)).fill(text)
				source, _ := next.fill(leafOf(next)).source()
				l := wantRight(t, source)
				if tree.Deep(l) > 40 {
					break
				}
				wantBack(t, l)
				n = next
			}
		}
	}
}
