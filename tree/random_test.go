package tree_test

import (
	"fmt"
	"reflect"
	"strings"
	"testing"

	"scriptorium/api"
	"scriptorium/lex"
)

// chance gives the same numbers each time.
type chance uint64

func newChance() *chance {
	c := chance(88172645463325252)
	return &c
}

func (c *chance) below(n int) int {
	*c ^= *c << 13
	*c ^= *c >> 7
	*c ^= *c << 17
	return int(uint64(*c) >> 20 % uint64(n))
}

// grower makes blocks that a parse could return, but with all At 0.
type grower struct {
	*chance
	// room is how many more things there may be, apart from small ones.
	room int
}

func (c *chance) grow(deep, room int) []api.Stat {
	return (&grower{c, room}).block(deep)
}

// less is the depth that a part may have, of something that may have this depth.
func (g *grower) less(deep int) int {
	if g.room <= 0 {
		return min(deep-1, 1)
	}
	if g.below(3) > 0 {
		return deep - 1
	}
	return min(deep-1, 1+g.below(3))
}

func (g *grower) few(most int) int {
	if g.room <= 0 || g.below(20) > 0 {
		return g.below(min(most, 3) + 1)
	}
	return g.below(most + 1)
}

func (g *grower) name() string {
	for {
		s := string("abcxyzABC_"[g.below(10)])
		for range g.few(31) {
			s += string("abcdenorstABC_0189"[g.below(18)])
		}
		if lex.Name(s) {
			return s
		}
	}
}

func (g *grower) names(n int) (l []string) {
	for range n {
		l = append(l, g.name())
	}
	return l
}

func (g *grower) text() string {
	b := make([]byte, g.few(40))
	for i := range b {
		b[i] = byte(g.below(256))
		if g.below(2) > 0 {
			b[i] = "ax09 \"'\\-\n\r\t~\x7f\x80\xff\x00n"[g.below(18)]
		}
	}
	return string(b)
}

// block makes one that is at most so deep.
func (g *grower) block(deep int) (l []api.Stat) {
	if deep <= 0 {
		return nil
	}
	for range g.few(6) {
		l = append(l, g.stat(g.less(deep)))
	}
	if g.below(3) == 0 {
		l = append(l, api.Stat{Kind: api.StatReturn, L: g.exps(g.below(2), deep)})
	}
	return l
}

// blocks makes some for something that may have this depth.
func (g *grower) blocks(n, deep int) (l [][]api.Stat) {
	for range n {
		l = append(l, g.block(g.less(deep+1)))
	}
	return l
}

// exps makes some for something that may have this depth.
func (g *grower) exps(n, deep int) (l []api.Exp) {
	for range n {
		if deep > 1 {
			l = append(l, g.exp(g.less(deep)))
		}
	}
	return l
}

// stat makes one for a depth that may be 0.
func (g *grower) stat(deep int) api.Stat {
	g.room--
	s := api.Stat{Kind: 1 + g.below(12)}
	if deep < 2 && s.Kind != api.StatDo && s.Kind != api.StatBreak {
		s.Kind = api.StatLocal
	}
	deep++
	switch s.Kind {
	case api.StatLocal:
		s.Names, s.L = g.names(1), g.exps(g.below(2), deep)
	case api.StatFunc:
		s.Names, s.L = g.names(1), []api.Exp{g.function(g.less(deep))}
	case api.StatSet:
		s.L = append([]api.Exp{g.target(g.less(deep))}, g.exps(1, deep)...)
	case api.StatCall:
		s.L = []api.Exp{g.call(g.target(1), g.less(deep))}
	case api.StatIf:
		n := 1 + g.few(4)
		s.L, s.Blocks = g.exps(n, deep), g.blocks(n+g.below(2), deep-1)
	case api.StatWhile, api.StatRepeat:
		s.L, s.Blocks = g.exps(1, deep), g.blocks(1, deep-1)
	case api.StatFor:
		s.Names, s.L, s.Blocks = g.names(1), g.exps(2+g.below(2), deep), g.blocks(1, deep-1)
	case api.StatEach:
		s.Names, s.L, s.Blocks = g.names(2), g.exps(1, deep), g.blocks(1, deep-1)
	case api.StatDo:
		s.Blocks = g.blocks(1, deep-1)
	case api.StatReturn:
		s.Kind = api.StatBreak
	}
	return s
}

// target makes a name, or something that ends in a key and begins with a name.
func (g *grower) target(deep int) api.Exp {
	e := api.Exp{Kind: api.ExpName, S: g.name()}
	for n := 1; n < deep && g.below(3) > 0; n++ {
		if g.below(3) == 0 && n+2 < deep {
			e = g.call(e, deep-n)
			n++
		}
		e = api.Exp{Kind: api.ExpIndex, L: append([]api.Exp{e}, g.exps(1, deep-n+1)...)}
	}
	return e
}

func (g *grower) call(e api.Exp, deep int) api.Exp {
	return api.Exp{Kind: api.ExpCall, L: append([]api.Exp{e}, g.exps(g.few(16), deep)...)}
}

func (g *grower) function(deep int) api.Exp {
	f := api.Func{Params: g.names(g.few(16)), Body: g.block(deep - 1)}
	return api.Exp{Kind: api.ExpFunc, F: []api.Func{f}}
}

func (g *grower) exp(deep int) api.Exp {
	g.room--
	e := api.Exp{Kind: 1 + g.below(16)}
	if deep < 2 && e.Kind > api.ExpTable {
		e.Kind = 1 + g.below(8)
	}
	switch e.Kind {
	case api.ExpInt:
		e.N = int64(g.below(1<<40)) << g.below(23) >> g.below(63)
	case api.ExpString:
		e.S = g.text()
	case api.ExpName:
		e.S = g.name()
	case api.ExpFunc:
		return g.function(deep)
	case api.ExpTable:
		g.fields(&e, deep)
	case api.ExpIndex:
		e.L = g.exps(2, deep)
	case api.ExpCall:
		e.L = g.exps(1+g.few(16), deep)
	case api.ExpNot, api.ExpMinus, api.ExpLen:
		e.L = g.exps(1, deep)
	case api.ExpBinary:
		e.Op, e.L = 1+g.below(12), g.exps(2, deep)
	case api.ExpAnd, api.ExpOr:
		e.L = g.exps(2, deep)
	}
	return e
}

func (g *grower) fields(e *api.Exp, deep int) {
	if deep < 2 {
		return
	}
	numbers := int64(0)
	for range g.few(64) {
		key := api.Exp{Kind: api.ExpString, S: g.name(), Op: 1}
		switch g.below(3) {
		case 0:
			numbers++
			key = api.Exp{Kind: api.ExpInt, N: numbers, Op: 1}
		case 1:
			key = g.exp(g.less(deep))
		}
		e.L = append(e.L, key, g.exp(g.less(deep)))
	}
}

// blocksOfAllSorts are blocks of several sizes and depths.
func blocksOfAllSorts(n int) (l [][]api.Stat) {
	c := newChance()
	for i := range n {
		l = append(l, c.grow(1+i%40, 1+c.below(150)))
	}
	return l
}

// visit visits x, which is a pointer, and all that stands in it.
func visit(x any, each func(reflect.Value)) {
	visitValue(reflect.ValueOf(x).Elem(), each)
}

func visitValue(v reflect.Value, each func(reflect.Value)) {
	each(v)
	switch v.Kind() {
	case reflect.Slice:
		for i := range v.Len() {
			visitValue(v.Index(i), each)
		}
	case reflect.Struct:
		for i := range v.NumField() {
			visitValue(v.Field(i), each)
		}
	}
}

// setPlaces gives each thing a place of its own.
func setPlaces(l []api.Stat) []api.Stat {
	l = copyOf(l)
	at := 0
	visit(&l, func(v reflect.Value) {
		if v.Kind() == reflect.Struct && v.Type() != reflect.TypeFor[api.Func]() {
			at++
			v.FieldByName("At").SetInt(int64(at))
		}
	})
	return l
}

// copyOf copies all lists.
func copyOf[T any](x T) T {
	visit(&x, func(v reflect.Value) {
		if v.Kind() == reflect.Slice && !v.IsNil() {
			list := reflect.MakeSlice(v.Type(), v.Len(), v.Len())
			reflect.Copy(list, v)
			v.Set(list)
		}
	})
	return x
}

// show keeps what is told short.
func show(x any) string { return fmt.Sprintf("%.500s", fmt.Sprintf("%+v", x)) }

// The blocks that are made have all kinds of things in them, few and many, flat and deep.
func TestBlocksOfAllSorts(t *testing.T) {
	count := map[string]int{}
	for _, l := range blocksOfAllSorts(2000) {
		visit(&l, func(v reflect.Value) {
			switch x := v.Interface().(type) {
			case api.Stat:
				count[fmt.Sprint("statement ", x.Kind)]++
			case api.Exp:
				count[fmt.Sprint("expression ", x.Kind)]++
			}
		})
	}
	var few []string
	for kind := range 12 {
		few = append(few, fmt.Sprint("statement ", kind+1))
	}
	for kind := range 16 {
		few = append(few, fmt.Sprint("expression ", kind+1))
	}
	for _, what := range few {
		if count[what] < 200 {
			t.Errorf("there is %d times a %s", count[what], what)
		}
	}
	if len(count) != 28 {
		t.Errorf("there are other kinds: %s", strings.TrimSpace(show(count)))
	}
}
