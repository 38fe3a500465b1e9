package scope_test

import (
	"strconv"
	"strings"
	"testing"

	"scriptorium/api"
	"scriptorium/scope"
	"scriptorium/tree"
)

// Trees that no parse returns.

// wantErr asks for an answer of Check.
func wantErr(t *testing.T, what string, l []api.Stat, wantErr, wantAt int) {
	t.Helper()
	if err, at := scope.Check(l); err != wantErr || at != wantAt {
		t.Errorf("17.2: Check of %s is %d, %d, want %d, %d", what, err, at, wantErr, wantAt)
	}
}

func nameAt(at int, s string) api.Exp {
	return api.Exp{Kind: api.ExpName, At: at, S: s}
}

func function(params []string, l ...api.Stat) api.Exp {
	return api.Exp{Kind: api.ExpFunc, F: []api.Func{{Params: params, Body: l}}}
}

func returning(e ...api.Exp) api.Stat {
	return api.Stat{Kind: api.StatReturn, L: e}
}

// inAnother puts a statement into one of each kind.
func inAnother() map[string]func(api.Stat) api.Stat {
	return map[string]func(api.Stat) api.Stat{
		"do":     func(s api.Stat) api.Stat { return api.Stat{Kind: api.StatDo, Blocks: [][]api.Stat{{s}}} },
		"while":  func(s api.Stat) api.Stat { return api.Stat{Kind: api.StatWhile, Blocks: [][]api.Stat{{s}}} },
		"repeat": func(s api.Stat) api.Stat { return api.Stat{Kind: api.StatRepeat, Blocks: [][]api.Stat{{s}}} },
		"if":     func(s api.Stat) api.Stat { return api.Stat{Kind: api.StatIf, Blocks: [][]api.Stat{nil, {s}}} },
		"for": func(s api.Stat) api.Stat {
			return api.Stat{Kind: api.StatFor, Names: []string{"i"}, Blocks: [][]api.Stat{{s}}}
		},
		"function": func(s api.Stat) api.Stat {
			return api.Stat{Kind: api.StatFunc, Names: []string{"f"}, L: []api.Exp{function([]string{"a"}, s)}}
		},
		"local":     func(s api.Stat) api.Stat { return api.Stat{Kind: api.StatLocal, L: []api.Exp{function(nil, s)}} },
		"condition": func(s api.Stat) api.Stat { return api.Stat{Kind: api.StatRepeat, L: []api.Exp{function(nil, s)}} },
	}
}

// However deep names are used, they are found.
func TestDeep(t *testing.T) {
	for what, in := range inAnother() {
		deep := 1 << 16
		if what == "for" {
			deep = 148
		}
		right, wrong := returning(nameAt(5, "KEYS")), returning(nameAt(5, "x"))
		for range deep {
			right, wrong = in(right), in(wrong)
		}
		wantErr(t, "KEYS in "+what, []api.Stat{right}, api.OK, 0)
		wantErr(t, "x in "+what, []api.Stat{wrong}, api.ErrSource, 5)
	}
}

// A name of the outermost function is used in each one.
func TestDeepUses(t *testing.T) {
	deep := 1 << 16
	f := api.Func{}
	for range deep {
		f = api.Func{Params: []string{"a", "b"}, Body: []api.Stat{returning(nameAt(1, "KEYS"), api.Exp{Kind: api.ExpFunc, F: []api.Func{f}}, nameAt(2, "a"), nameAt(3, "c"))}}
	}
	wantErr(t, "deep functions", f.Body, api.ErrSource, 3)
	if got := strings.Join(scope.Outer(f), " "); got != "KEYS c" {
		t.Errorf("17.3: Outer of deep functions is %q", got)
	}
	e := nameAt(1, "x")
	for i := range deep {
		e = api.Exp{Kind: api.ExpNot + i%3, L: []api.Exp{e}}
	}
	wantErr(t, "a deep expression", []api.Stat{returning(e)}, api.ErrSource, 1)
}

// Many names at a time, each of them often.
func TestMany(t *testing.T) {
	var l []api.Stat
	var f api.Func
	var want []string
	for i := range 100000 {
		name := "n" + strconv.Itoa(i)
		want = append(want, name)
		l = append(l, api.Stat{Kind: api.StatDo, Blocks: [][]api.Stat{{{Kind: api.StatLocal, Names: []string{name}}, returning(nameAt(i, name))}}})
		f.Body = append(f.Body, returning(nameAt(i, name), nameAt(i, want[i/2])))
	}
	wantErr(t, "many names", append(l, returning(nameAt(7, "n1"))), api.ErrSource, 7)
	if got := scope.Outer(f); strings.Join(got, " ") != strings.Join(want, " ") {
		t.Errorf("17.3: Outer of many names has %d names", len(got))
	}
}

// A name that is not visible is found wherever it stands in a tree.
func TestAnywhere(t *testing.T) {
	x := nameAt(9, "x")
	for kind := -1; kind < 20; kind++ {
		for what, e := range map[string]api.Exp{
			"a part":      {Kind: kind, L: []api.Exp{x}},
			"a last part": {Kind: kind, L: []api.Exp{{}, {}, {}, x}},
			"a function":  {Kind: kind, F: []api.Func{{Body: []api.Stat{returning(x)}}}},
			"the second":  {Kind: kind, F: []api.Func{{Params: []string{"x"}}, {Body: []api.Stat{returning(x)}}}},
		} {
			what += " of an expression of kind " + strconv.Itoa(kind)
			e.S = "type"
			wantErr(t, what, []api.Stat{returning(e)}, api.ErrSource, 9)
			if got := strings.Join(scope.Outer(api.Func{Body: []api.Stat{returning(e)}}), " "); got != "x" {
				t.Errorf("17.3: Outer of %s is %q", what, got)
			}
		}
		for what, s := range map[string]api.Stat{
			"an expression":      {Kind: kind, L: []api.Exp{x}},
			"a last expression":  {Kind: kind, L: []api.Exp{{}, {}, {}, {}, x}},
			"a block":            {Kind: kind, Blocks: [][]api.Stat{{returning(x)}}},
			"a last block":       {Kind: kind, Blocks: [][]api.Stat{nil, nil, nil, {{}, returning(x)}}},
			"one of many blocks": {Kind: kind, L: make([]api.Exp, 2), Blocks: [][]api.Stat{nil, nil, nil, {returning(x)}, nil}},
		} {
			what += " of a statement of kind " + strconv.Itoa(kind)
			loop := []api.Stat{{Kind: api.StatWhile, Blocks: [][]api.Stat{{s}}}}
			wantErr(t, what, loop, api.ErrSource, 9)
			if got := strings.Join(scope.Outer(api.Func{Body: loop}), " "); got != "x" {
				t.Errorf("17.3: Outer of %s is %q", what, got)
			}
		}
	}
}

// What is not there is nothing wrong.
func TestMissing(t *testing.T) {
	for kind := -1; kind < 20; kind++ {
		if kind == api.StatBreak {
			continue
		}
		for _, s := range []api.Stat{
			{Kind: kind}, {Kind: kind, At: 5}, {Kind: kind, L: []api.Exp{{}}}, {Kind: kind, Blocks: [][]api.Stat{nil}}, {Kind: kind, Blocks: [][]api.Stat{{}, {{}}}}, {Kind: kind, Names: []string{""}}, {Kind: kind, Names: []string{"end", "1", "\x00"}},
			{Kind: kind, L: []api.Exp{{Kind: api.ExpFunc}}}, {Kind: kind, L: []api.Exp{{Kind: api.ExpIndex}}}, {Kind: kind, L: []api.Exp{{Kind: api.ExpCall}, {Kind: api.ExpTable, L: make([]api.Exp, 3)}}}, {Kind: kind, L: []api.Exp{{Kind: api.ExpString, S: "x"}}},
		} {
			wantErr(t, "a statement of kind "+strconv.Itoa(kind), []api.Stat{s}, api.OK, 0)
			wantErr(t, "a statement of kind "+strconv.Itoa(kind), []api.Stat{s, s, returning(nameAt(1, "x"))}, api.ErrSource, 1)
			if got := scope.Outer(api.Func{Body: []api.Stat{s}}); len(got) > 0 {
				t.Errorf("17.3: Outer of a statement of kind %d is %q", kind, got)
			}
		}
	}
	wantErr(t, "a break", []api.Stat{{Kind: api.StatBreak, At: -7}}, api.ErrSource, -7)
	if got := scope.Outer(api.Func{}); len(got) > 0 {
		t.Errorf("17.3: Outer of nothing is %q", got)
	}
	if got := scope.Outer(api.Func{Params: []string{"", "x", "x"}}); len(got) > 0 {
		t.Errorf("17.3: Outer of parameters is %q", got)
	}
}

// Any string may stand in the place of a name.
func TestOddNames(t *testing.T) {
	for _, name := range []string{"", " ", "end", "1", "x y", "\x00", "\xff", "KEYS ", "äöü", strings.Repeat("x", 100000)} {
		use := returning(nameAt(3, name))
		wantErr(t, "an odd name", []api.Stat{use}, api.ErrSource, 3)
		wantErr(t, "an odd name", []api.Stat{{Kind: api.StatLocal, Names: []string{name}}, use}, api.OK, 0)
		wantErr(t, "an odd name", []api.Stat{{Kind: api.StatLocal, Names: []string{name + "x"}}, use}, api.ErrSource, 3)
		f := api.Func{Body: []api.Stat{use}}
		if got := scope.Outer(f); len(got) != 1 || got[0] != name {
			t.Errorf("17.3: Outer of an odd name is %q", got)
		}
		f.Params = []string{name}
		if got := scope.Outer(f); len(got) != 0 {
			t.Errorf("17.3: Outer of an odd parameter is %q", got)
		}
	}
}

// Without places the faults are the same, at 0.
func TestBare(t *testing.T) {
	scripts(t, 300, func(c *chance, l []api.Stat) {
		err, _ := scope.Check(l)
		wantErr(t, tree.Text(l), tree.Bare(l), err, 0)
	})
}

// oddExp and oddStat make trees of any form.
func (c *chance) oddExp(deep int) api.Exp {
	e := api.Exp{Kind: c.below(18), At: c.below(100) - 50, S: []string{"x", "type", "KEYS", ""}[c.below(4)], Op: c.below(3)}
	if deep > 0 {
		for range c.below(3) {
			e.L = append(e.L, c.oddExp(deep-1))
		}
		if c.below(3) == 0 {
			e.F = append(e.F, api.Func{Params: c.oddNames(), Body: c.oddBlock(deep - 1)})
		}
	}
	return e
}

func (c *chance) oddNames() (l []string) {
	for range c.below(4) {
		l = append(l, []string{"x", "type", "KEYS", "", "y"}[c.below(5)])
	}
	return l
}

func (c *chance) oddBlock(deep int) (l []api.Stat) {
	for range c.below(4) {
		s := api.Stat{Kind: c.below(14), At: c.below(100) - 50, Names: c.oddNames()}
		for range c.below(3) {
			s.L = append(s.L, c.oddExp(deep-1))
			if deep > 0 {
				s.Blocks = append(s.Blocks, c.oddBlock(deep-1))
			}
		}
		l = append(l, s)
	}
	return l
}

// Whatever a tree is, the calls end, change nothing, and answer the same again.
func TestOddTrees(t *testing.T) {
	c := newChance()
	for range 3000 {
		l := c.oddBlock(1 + c.below(6))
		before := copyOf(l)
		f := api.Func{Params: c.oddNames(), Body: l}
		err, at := scope.Check(l)
		outer := strings.Join(scope.Outer(f), " ")
		if err != api.OK && err != api.ErrSource && err != api.ErrLimit || err == api.OK && at != 0 || err != api.OK && (at < -50 || at >= 50) {
			t.Fatalf("17.2: Check is %d, %d", err, at)
		}
		wantErr(t, "a tree", l, err, at)
		if again := strings.Join(scope.Outer(f), " "); again != outer {
			t.Fatalf("17.3: Outer is %q and %q", outer, again)
		}
		if !tree.Same(l, before) {
			t.Fatal("a call changed its argument")
		}
	}
}
