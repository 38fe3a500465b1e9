package code_test

import (
	"cmp"
	"reflect"
	"slices"
	"strconv"
	"strings"
	"unsafe"

	"scriptorium/api"
)

// chance gives the same numbers each time.
type chance uint64

func newChance() *chance {
	c := chance(88172645463325252)
	return &c
}

func (c *chance) below(n int) int {
	*c ^= *c << 13
	*c ^= *c >> 7
	*c ^= *c << 17
	return int(uint64(*c) >> 20 % uint64(n))
}

func pick[T any](c *chance, l ...T) T { return l[c.below(len(l))] }

// shares reports whether the bytes of part lie in those of whole.
func shares(whole, part string) bool {
	first := uintptr(unsafe.Pointer(unsafe.StringData(whole)))
	at := uintptr(unsafe.Pointer(unsafe.StringData(part)))
	return first <= at && at < first+uintptr(len(whole))
}

// within calls a function with a value and all that is in it.
func within(v reflect.Value, each func(reflect.Value)) {
	each(v)
	switch v.Kind() {
	case reflect.Slice:
		for i := range v.Len() {
			within(v.Index(i), each)
		}
	case reflect.Struct:
		for i := range v.NumField() {
			within(v.Field(i), each)
		}
	}
}

// everything calls a function with all that a block consists of.
func everything(l *[]api.Stat, each func(reflect.Value)) {
	within(reflect.ValueOf(l).Elem(), each)
}

// copyOf copies all lists of a block.
func copyOf(l []api.Stat) []api.Stat {
	everything(&l, func(v reflect.Value) {
		if v.Kind() == reflect.Slice && !v.IsNil() {
			list := reflect.MakeSlice(v.Type(), v.Len(), v.Len())
			reflect.Copy(list, v)
			v.Set(list)
		}
	})
	return l
}

// spoil changes all numbers and strings of a block.
func spoil(l []api.Stat) {
	everything(&l, func(v reflect.Value) {
		switch v.Kind() {
		case reflect.Int, reflect.Int64:
			v.SetInt(v.Int() + 1)
		case reflect.String:
			v.SetString(v.String() + "x")
		}
	})
}

// renamed returns a block whose names are called otherwise.
func renamed(l []api.Stat) []api.Stat {
	l = copyOf(l)
	isOwn := func(s string) bool { return strings.Contains("ntfx", s[:1]) && strings.Trim(s[1:], "0123456789") == "" }
	other := func(s string) string {
		if isOwn(s) {
			return "other" + s
		}
		return s
	}
	everything(&l, func(v reflect.Value) {
		switch x := v.Addr().Interface().(type) {
		case *api.Exp:
			if x.Kind == api.ExpName {
				x.S = other(x.S)
			}
		case *[]string:
			for i, s := range *x {
				(*x)[i] = other(s)
			}
		}
	})
	return l
}

// grower makes blocks that mean something, without places. What names are called tells
// what they mostly are: numbers (n), tables (t), functions (f) or anything (x).
type grower struct {
	*chance
	room  int      // how many more things there may be, apart from small ones
	names []string // which are visible
	loops int      // of the function
	deep  int
}

// grown returns a block that scope.Check accepts.
func grown(c *chance, room int) []api.Stat {
	g := &grower{chance: c, room: room, names: []string{"KEYS", "ARGV"}}
	var l []api.Stat
	for g.room > 0 {
		l = append(l, g.stat())
	}
	return append(l, api.Stat{Kind: api.StatReturn, L: []api.Exp{g.summary()}})
}

// summary is a table of all names.
func (g *grower) summary() api.Exp {
	e := api.Exp{Kind: api.ExpTable}
	for i, s := range g.names[max(0, len(g.names)-60):] {
		e.L = append(e.L, api.Exp{Kind: api.ExpInt, N: int64(i + 1), Op: 1}, named(s))
	}
	return e
}

func named(s string) api.Exp       { return api.Exp{Kind: api.ExpName, S: s} }
func integer(n int64) api.Exp      { return api.Exp{Kind: api.ExpInt, N: n} }
func quoted(s string) api.Exp      { return api.Exp{Kind: api.ExpString, S: s} }
func calling(l ...api.Exp) api.Exp { return api.Exp{Kind: api.ExpCall, L: l} }

// fresh returns a name that may be declared; often it is one that hides another one.
func (g *grower) fresh(kind string) string {
	if g.below(30) == 0 {
		return pick(g.chance, "type", "KEYS", "error", "call")
	}
	return kind + strconv.Itoa(g.below(4))
}

// known returns a name of this kind that is visible, or nothing.
func (g *grower) known(kind string) string {
	var l []string
	for _, s := range g.names {
		if strings.HasPrefix(s, kind) {
			l = append(l, s)
		}
	}
	if len(l) == 0 {
		return ""
	}
	return l[g.below(len(l))]
}

// block grows statements whose names are visible in it only.
func (g *grower) block(ownNames ...string) []api.Stat {
	return g.blockAnd(func() {}, ownNames...)
}

// blockAnd does something at the end of a block.
func (g *grower) blockAnd(end func(), ownNames ...string) (l []api.Stat) {
	before := len(g.names)
	g.names = append(g.names, ownNames...)
	g.deep++
	for n := g.below(4); n > 0 && g.room > 0 && g.deep < 12; n-- {
		l = append(l, g.stat())
	}
	if g.below(12) == 0 {
		l = append(l, g.last())
	}
	end()
	g.deep--
	g.names = slices.Clip(g.names[:before])
	return l
}

// last ends a block early.
func (g *grower) last() api.Stat {
	if g.loops > 0 && g.below(3) > 0 {
		return api.Stat{Kind: api.StatBreak}
	}
	s := api.Stat{Kind: api.StatReturn}
	if g.below(4) > 0 {
		s.L = []api.Exp{g.any()}
	}
	return s
}

func (g *grower) loop(s *api.Stat, names ...string) {
	g.loops++
	s.Blocks = [][]api.Stat{g.block(names...)}
	g.loops--
}

func (g *grower) stat() api.Stat {
	g.room--
	switch g.below(15) {
	case 0, 1, 2:
		return g.local()
	case 3:
		return g.localFunction()
	case 4, 5, 6:
		return g.set()
	case 7:
		e := g.call()
		if e.L[0].Kind != api.ExpName {
			e.L = append([]api.Exp{named("pcall")}, e.L...)
		}
		return api.Stat{Kind: api.StatCall, L: []api.Exp{e}}
	case 8:
		return api.Stat{Kind: api.StatCall, L: []api.Exp{calling(named("call"), g.word(), g.number())}}
	case 9:
		return g.cases()
	case 10, 11:
		return g.counting()
	case 12:
		return g.looping()
	}
	if g.below(3) == 0 {
		return api.Stat{Kind: api.StatDo, Blocks: [][]api.Stat{g.block()}}
	}
	return g.protected()
}

func (g *grower) local() api.Stat {
	kind := pick(g.chance, "n", "t", "f", "x")
	s := api.Stat{Kind: api.StatLocal}
	if kind != "x" || g.below(3) > 0 {
		s.L = []api.Exp{g.of(kind)}
	}
	s.Names = []string{g.fresh(kind)}
	g.names = append(g.names, s.Names[0])
	return s
}

func (g *grower) localFunction() api.Stat {
	s := api.Stat{Kind: api.StatFunc, Names: []string{g.fresh("f")}}
	g.names = append(g.names, s.Names[0])
	s.L = []api.Exp{g.function()}
	return s
}

// protected is a pcall of a function, whose outcome is kept.
func (g *grower) protected() api.Stat {
	s := api.Stat{Kind: api.StatLocal, L: []api.Exp{calling(named("pcall"), g.function(), g.any())}, Names: []string{g.fresh("x")}}
	g.names = append(g.names, s.Names[0])
	return s
}

func (g *grower) set() api.Stat {
	kind := pick(g.chance, "n", "n", "t", "f", "x")
	if s := g.known(kind); s != "" && g.below(3) > 0 {
		return api.Stat{Kind: api.StatSet, L: []api.Exp{named(s), g.of(kind)}}
	}
	target := api.Exp{Kind: api.ExpIndex, L: []api.Exp{named(cmp.Or(g.known("t"), "KEYS")), g.key()}}
	for g.below(4) == 0 {
		target = api.Exp{Kind: api.ExpIndex, L: []api.Exp{target, g.key()}}
	}
	return api.Stat{Kind: api.StatSet, L: []api.Exp{target, g.any()}}
}

func (g *grower) cases() api.Stat {
	s := api.Stat{Kind: api.StatIf}
	for range 1 + g.below(3) {
		s.L = append(s.L, g.condition())
		s.Blocks = append(s.Blocks, g.block())
	}
	if g.below(2) == 0 {
		s.Blocks = append(s.Blocks, g.block())
	}
	return s
}

// counting is a StatFor or a StatEach.
func (g *grower) counting() (s api.Stat) {
	if g.below(2) == 0 {
		s = api.Stat{Kind: api.StatEach, Names: []string{g.fresh("x"), g.fresh("n")}, L: []api.Exp{g.of("t")}}
		g.loop(&s, s.Names...)
		return s
	}
	s = api.Stat{Kind: api.StatFor, Names: []string{g.fresh("n")}}
	a, b := int64(g.below(4)), int64(g.below(5))
	s.L = []api.Exp{integer(a), integer(b)}
	if g.below(3) == 0 {
		s.L = append(s.L, pick(g.chance, integer(2), integer(1), api.Exp{Kind: api.ExpMinus, L: []api.Exp{integer(1)}}, g.number()))
	}
	g.loop(&s, s.Names...)
	return s
}

// looping is a StatWhile or a StatRepeat.
func (g *grower) looping() (s api.Stat) {
	if g.below(2) == 0 {
		s = api.Stat{Kind: api.StatWhile, L: []api.Exp{g.condition()}}
		g.loop(&s)
		return s
	}
	s = api.Stat{Kind: api.StatRepeat}
	g.loops++
	s.Blocks = [][]api.Stat{g.blockAnd(func() { s.L = []api.Exp{g.condition()} })}
	g.loops--
	return s
}

// of returns an expression that mostly is what such a name is.
func (g *grower) of(kind string) api.Exp {
	g.room--
	if g.below(40) == 0 {
		return g.any()
	}
	if s := g.known(kind); s != "" && g.below(2) == 0 {
		return named(s)
	}
	switch kind {
	case "n":
		return g.number()
	case "t":
		return g.table()
	case "f":
		return g.function()
	}
	return g.any()
}

func (g *grower) any() api.Exp {
	g.room--
	if g.room < 0 {
		return pick(g.chance, named("KEYS"), integer(1), quoted("a"), api.Exp{Kind: api.ExpNil})
	}
	switch g.below(9) {
	case 0:
		return pick(g.chance, api.Exp{Kind: api.ExpNil}, api.Exp{Kind: api.ExpTrue}, api.Exp{Kind: api.ExpFalse}, named("type"))
	case 1:
		return g.word()
	case 2:
		return api.Exp{Kind: api.ExpIndex, L: []api.Exp{g.of("t"), g.key()}}
	case 3:
		return g.call()
	case 4:
		return api.Exp{Kind: pick(g.chance, api.ExpAnd, api.ExpOr), L: []api.Exp{g.any(), g.any()}}
	case 5:
		return g.condition()
	}
	return g.of(pick(g.chance, "n", "t", "f", "x"))
}

func (g *grower) number() api.Exp {
	g.room--
	if g.room < 0 {
		return integer(int64(g.below(4)))
	}
	switch g.below(6) {
	case 0, 1:
		return integer(int64(g.below(5)))
	case 2:
		if s := g.known("n"); s != "" {
			return named(s)
		}
	case 3:
		return api.Exp{Kind: api.ExpMinus, L: []api.Exp{g.of("n")}}
	case 4:
		return api.Exp{Kind: api.ExpLen, L: []api.Exp{pick(g.chance, g.of("t"), g.word())}}
	}
	op := pick(g.chance, api.OpAdd, api.OpSub, api.OpMul, api.OpDiv, api.OpMod)
	return api.Exp{Kind: api.ExpBinary, Op: op, L: []api.Exp{g.of("n"), g.of("n")}}
}

func (g *grower) condition() api.Exp {
	g.room--
	switch g.below(6) {
	case 0:
		return api.Exp{Kind: api.ExpNot, L: []api.Exp{g.any()}}
	case 1:
		return pick(g.chance, api.Exp{Kind: api.ExpTrue}, api.Exp{Kind: api.ExpFalse}, api.Exp{Kind: api.ExpNil})
	case 2:
		return api.Exp{Kind: pick(g.chance, api.ExpAnd, api.ExpOr), L: []api.Exp{g.any(), g.any()}}
	case 3:
		return api.Exp{Kind: api.ExpBinary, Op: pick(g.chance, api.OpSame, api.OpOther), L: []api.Exp{g.any(), g.any()}}
	case 4:
		return api.Exp{Kind: api.ExpBinary, Op: pick(g.chance, api.OpLess, api.OpLeast), L: []api.Exp{g.word(), g.word()}}
	}
	op := pick(g.chance, api.OpLess, api.OpMost, api.OpMore, api.OpLeast)
	return api.Exp{Kind: api.ExpBinary, Op: op, L: []api.Exp{g.of("n"), g.of("n")}}
}

func (g *grower) word() api.Exp {
	if g.room < 0 || g.below(2) == 0 {
		return quoted(pick(g.chance, "", "a", "b", "something long", "1", "KEYS", "n1", "type"))
	}
	g.room--
	return api.Exp{Kind: api.ExpBinary, Op: api.OpJoin, L: []api.Exp{g.word(), g.number()}}
}

func (g *grower) key() api.Exp {
	return pick(g.chance, g.number(), g.word(), integer(1), quoted("k"), g.condition())
}

func (g *grower) table() api.Exp {
	e := api.Exp{Kind: api.ExpTable}
	n := int64(0)
	for i := g.below(4); i > 0 && g.room > 0; i-- {
		switch g.below(4) {
		case 0:
			e.L = append(e.L, g.key(), g.any())
		case 1:
			e.L = append(e.L, api.Exp{Kind: api.ExpString, S: pick(g.chance, "a", "k"), Op: 1}, g.any())
		default:
			n++
			e.L = append(e.L, api.Exp{Kind: api.ExpInt, N: n, Op: 1}, g.any())
		}
	}
	return e
}

func (g *grower) function() api.Exp {
	g.room--
	var params []string
	for range g.below(4) {
		params = append(params, g.fresh(pick(g.chance, "n", "t", "f", "x")))
	}
	loops := g.loops
	g.loops = 0
	body := g.block(params...)
	if s := g.known("n"); s != "" && !slices.Contains(params, s) && g.below(2) == 0 {
		more := api.Exp{Kind: api.ExpBinary, Op: api.OpAdd, L: []api.Exp{named(s), integer(1)}}
		body = append([]api.Stat{{Kind: api.StatSet, L: []api.Exp{named(s), more}}}, body...)
	}
	if len(body) == 0 || body[len(body)-1].Kind != api.StatReturn && body[len(body)-1].Kind != api.StatBreak && g.below(3) > 0 {
		before := g.names
		g.names = append(slices.Clip(g.names), params...)
		body = append(body, api.Stat{Kind: api.StatReturn, L: []api.Exp{g.any()}})
		g.names = before
	}
	g.loops = loops
	return api.Exp{Kind: api.ExpFunc, F: []api.Func{{Params: params, Body: body}}}
}

// call calls a function, mostly.
func (g *grower) call() api.Exp {
	g.room--
	if g.room > 0 {
		switch g.below(9) {
		case 0:
			return calling(named("call"), g.word(), g.number())
		case 1:
			return calling(named("insert"), g.of("t"), g.any())
		case 2:
			return calling(named(pick(g.chance, "remove", "keys")), g.of("t"))
		case 3:
			return calling(named("type"), g.any())
		case 4:
			return calling(named("pcall"), g.of("f"), g.any(), g.any())
		case 5:
			return calling(named("error"), g.any())
		case 6, 7:
			return calling(g.function(), g.any())
		}
	}
	e := calling(g.of("f"))
	for range g.below(4) {
		e.L = append(e.L, g.any())
	}
	return e
}
