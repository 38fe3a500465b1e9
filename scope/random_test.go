package scope_test

import (
	"reflect"
	"slices"
	"strconv"
	"strings"
	"testing"

	"scriptorium/api"
	"scriptorium/scope"
	"scriptorium/tree"
)

// chance gives the same numbers each time.
type chance uint64

func newChance() *chance {
	c := chance(88172645463325252)
	return &c
}

func (c *chance) below(n int) int {
	*c ^= *c << 13
	*c ^= *c >> 7
	*c ^= *c << 17
	return int(uint64(*c) >> 20 % uint64(n))
}

// grower makes blocks that a parse could return, without places.
type grower struct {
	*chance
	room  int // how many more things there may be, apart from small ones
	calls []string
}

func (g *grower) name() string { return g.calls[g.below(len(g.calls))] }

func (g *grower) few(most int) int {
	if g.room <= 0 {
		return 0
	}
	return g.below(most + 1)
}

func (g *grower) names(n int) (l []string) {
	for range n {
		l = append(l, g.name())
	}
	return l
}

func (g *grower) block(deep int) (l []api.Stat) {
	for range g.few(5) {
		l = append(l, g.stat(deep-1))
		if g.below(8) == 0 {
			l = append(l, g.many()...)
		}
	}
	if g.below(6) == 0 {
		l = append(l, api.Stat{Kind: api.StatReturn, L: g.exps(g.below(2), deep-1)})
	}
	return l
}

// many declares many names.
func (g *grower) many() (l []api.Stat) {
	for range g.below(90) {
		l = append(l, api.Stat{Kind: api.StatLocal, Names: g.names(1)})
	}
	return l
}

func (g *grower) blocks(n, deep int) (l [][]api.Stat) {
	for range n {
		l = append(l, g.block(deep))
	}
	return l
}

func (g *grower) exps(n, deep int) (l []api.Exp) {
	for range n {
		l = append(l, g.exp(deep))
	}
	return l
}

func (g *grower) stat(deep int) api.Stat {
	g.room--
	s := api.Stat{Kind: 1 + g.below(12)}
	if deep < 2 {
		s.Kind = []int{api.StatLocal, api.StatBreak, api.StatSet}[g.below(3)]
	}
	switch s.Kind {
	case api.StatLocal:
		s.Names, s.L = g.names(1), g.exps(g.below(2), deep)
	case api.StatFunc:
		s.Names, s.L = g.names(1), []api.Exp{g.function(deep)}
	case api.StatSet:
		s.L = []api.Exp{{Kind: api.ExpName, S: g.name()}, g.exp(deep)}
		if g.below(4) == 0 {
			s.L[0] = api.Exp{Kind: api.ExpIndex, L: []api.Exp{s.L[0], g.exp(deep)}}
		}
	case api.StatCall:
		s.L = []api.Exp{{Kind: api.ExpCall, L: append([]api.Exp{{Kind: api.ExpName, S: g.name()}}, g.exps(g.few(3), deep)...)}}
	case api.StatIf:
		n := 1 + g.few(2)
		s.L, s.Blocks = g.exps(n, deep), g.blocks(n+g.below(2), deep)
	case api.StatWhile, api.StatRepeat:
		s.L, s.Blocks = g.exps(1, deep), g.blocks(1, deep)
	case api.StatFor:
		s.Names, s.L, s.Blocks = g.names(1), g.exps(2+g.below(2), deep), g.blocks(1, deep)
	case api.StatEach:
		s.Names, s.L, s.Blocks = g.names(2), g.exps(1, deep), g.blocks(1, deep)
	case api.StatDo:
		s.Blocks = g.blocks(1, deep)
	case api.StatReturn:
		s.Kind = api.StatBreak
	}
	return s
}

func (g *grower) function(deep int) api.Exp {
	return api.Exp{Kind: api.ExpFunc, F: []api.Func{{Params: g.names(g.few(4)), Body: g.block(deep - 1)}}}
}

func (g *grower) exp(deep int) api.Exp {
	g.room--
	kind := g.below(12)
	if deep < 2 || g.room < 0 {
		kind = 6
	}
	switch kind {
	case 0, 1, 2:
		return g.function(deep)
	case 3:
		e := api.Exp{Kind: api.ExpTable}
		for range g.few(3) {
			e.L = append(e.L, g.exps(2, deep-1)...)
		}
		return e
	case 4:
		return api.Exp{Kind: api.ExpCall, L: g.exps(1+g.few(3), deep-1)}
	case 5:
		return api.Exp{Kind: []int{api.ExpAnd, api.ExpOr, api.ExpIndex}[g.below(3)], L: g.exps(2, deep-1)}
	case 11:
		return api.Exp{Kind: []int{api.ExpNot, api.ExpLen, api.ExpMinus}[g.below(3)], L: g.exps(1, deep-1)}
	}
	return api.Exp{Kind: api.ExpName, S: g.name()}
}

// scripts calls a function with many blocks, as parses return them.
func scripts(t *testing.T, n int, each func(*chance, []api.Stat)) {
	t.Helper()
	c := newChance()
	for i := range n {
		calls := strings.Fields("a b c d type error KEYS ARGV e f g h i j k l m n o p")[i%4 : 5+i%16]
		g := &grower{c, 10 + c.below(120), calls}
		source := tree.Text(g.block(3 + i%12))
		if len(source) <= api.MaxSource {
			each(c, parsed(t, source))
		}
	}
}

// copyOf copies all lists of a block.
func copyOf(l []api.Stat) []api.Stat {
	visit(reflect.ValueOf(&l).Elem(), func(v reflect.Value) {
		if v.Kind() == reflect.Slice && !v.IsNil() {
			list := reflect.MakeSlice(v.Type(), v.Len(), v.Len())
			reflect.Copy(list, v)
			v.Set(list)
		}
	})
	return l
}

func visit(v reflect.Value, each func(reflect.Value)) {
	each(v)
	switch v.Kind() {
	case reflect.Slice:
		for i := range v.Len() {
			visit(v.Index(i), each)
		}
	case reflect.Struct:
		for i := range v.NumField() {
			visit(v.Field(i), each)
		}
	}
}

// functions returns all functions of a block.
func functions(l []api.Stat) (all []*api.Func) {
	visit(reflect.ValueOf(&l).Elem(), func(v reflect.Value) {
		if f, ok := v.Addr().Interface().(*api.Func); ok {
			all = append(all, f)
		}
	})
	return all
}

func wantModel(t *testing.T, l []api.Stat) fault {
	t.Helper()
	before := copyOf(l)
	want := newModel(&api.Func{Body: l}, true).check()
	for range 2 {
		if err, at := scope.Check(l); err != want.err || at != want.at {
			t.Fatalf("17.2: Check of %s is %d, %d, want %d, %d", tree.Text(l), err, at, want.err, want.at)
		}
	}
	if !tree.Same(l, before) {
		t.Fatalf("Check changed %s", tree.Text(before))
	}
	return want
}

func wantOuterOfModel(t *testing.T, f *api.Func) {
	t.Helper()
	before := copyOf(f.Body)
	want := newModel(f, false).outer()
	for range 2 {
		if got := scope.Outer(*f); !slices.Equal(got, want) {
			t.Fatalf("17.3: Outer of function(%s) %s is %q, want %q", f.Params, tree.Text(f.Body), got, want)
		}
	}
	if !tree.Same(f.Body, before) {
		t.Fatalf("Outer changed %s", tree.Text(before))
	}
}

// Each fault of a script is found, when all those in front of it are mended.
func TestModel(t *testing.T) {
	count := map[int]int{}
	most := 0
	scripts(t, 500, func(c *chance, l []api.Stat) {
		for n := 0; ; n++ {
			want := wantModel(t, l)
			count[want.err]++
			if want.err == api.OK {
				most = max(most, n)
				break
			}
			want.mend()
		}
	})
	if count[api.OK] < 400 || count[api.ErrSource] < 4000 || count[api.ErrLimit] < 500 || most < 50 {
		t.Errorf("the scripts have few faults: %v, at most %d", count, most)
	}
}

func TestModelOfOuter(t *testing.T) {
	count := map[int]int{}
	scripts(t, 700, func(c *chance, l []api.Stat) {
		for _, f := range append(functions(l), &api.Func{Body: l}) {
			wantOuterOfModel(t, f)
			count[min(len(scope.Outer(*f)), 5)]++
		}
	})
	for n := range 6 {
		if count[n] < 50 {
			t.Errorf("%d times there are %d names from around", count[n], n)
		}
	}
}

// wantSameCheck asks for the same answer for two blocks whose names are called otherwise.
func wantSameCheck(t *testing.T, one, other []api.Stat) {
	t.Helper()
	err, at := scope.Check(one)
	if otherErr, otherAt := scope.Check(other); otherErr != err || otherAt != at {
		t.Fatalf("17.4: Check of %s is %d, %d, that of %s is %d, %d", tree.Text(one), err, at, tree.Text(other), otherErr, otherAt)
	}
}

// rename gives each declared name of a block a name by its number. KEYS and ARGV are the
// first two; the names that are declared nowhere keep theirs.
func rename(l []api.Stat, call func(int, string) string) {
	m := newModel(&api.Func{Body: l}, true)
	numbers := map[*declared]int{}
	for i, d := range m.declared {
		numbers[d] = i
	}
	sources := make([]*declared, len(m.used))
	for i, u := range m.used {
		sources[i] = m.nearest(u)
	}
	for i, u := range m.used {
		if d := sources[i]; d != nil && numbers[d] >= 2 {
			u.exp.S = call(numbers[d], u.exp.S)
		}
	}
	for i, d := range m.declared[2:] {
		*d.name = call(i+2, *d.name)
	}
}

// mended gives calls for a block with each of its first faults.
func mended(t *testing.T, n int, each func(*chance, []api.Stat)) {
	scripts(t, n, func(c *chance, l []api.Stat) {
		for {
			each(c, l)
			want := newModel(&api.Func{Body: l}, true).check()
			if want.err == api.OK {
				break
			}
			for range 1 + c.below(20) {
				if want.err != api.OK {
					want.mend()
					want = newModel(&api.Func{Body: l}, true).check()
				}
			}
		}
	})
}

// What a name is called does not matter, whether others are called so too or not.
func TestRenamed(t *testing.T) {
	mended(t, 200, func(c *chance, l []api.Stat) {
		other := copyOf(l)
		rename(other, func(i int, name string) string { return "u" + strconv.Itoa(i) })
		wantSameCheck(t, l, other)
		wantModel(t, other)
	})
}

// Names may be called as built-in functions are.
func TestRenamedAsBuiltins(t *testing.T) {
	free := slices.DeleteFunc(builtins(), func(s string) bool { return s == "type" || s == "error" })
	mended(t, 200, func(c *chance, l []api.Stat) {
		other := copyOf(l)
		from := c.below(100)
		rename(other, func(i int, name string) string {
			if i >= from && i < from+len(free) {
				return free[i-from]
			}
			return "u" + strconv.Itoa(i)
		})
		wantSameCheck(t, l, other)
		wantModel(t, other)
		for _, f := range functions(other) {
			wantOuterOfModel(t, f)
		}
	})
}

// The names may trade places with one another, apart from those that are there already.
func TestTraded(t *testing.T) {
	to := map[string]string{}
	names := strings.Fields("a b c d e f g h i j k l m n o p")
	for i, name := range names {
		to[name] = names[(i*5+3)%len(names)]
	}
	called := func(name string) string {
		if to[name] != "" {
			return to[name]
		}
		return name
	}
	mended(t, 200, func(c *chance, l []api.Stat) {
		other := copyOf(l)
		visit(reflect.ValueOf(&other).Elem(), func(v reflect.Value) {
			if v.Kind() == reflect.String {
				v.SetString(called(v.String()))
			}
		})
		wantSameCheck(t, l, other)
		for i, f := range functions(other) {
			want := scope.Outer(*functions(l)[i])
			for j := range want {
				want[j] = called(want[j])
			}
			if got := scope.Outer(*f); !slices.Equal(got, want) {
				t.Fatalf("17.4: Outer of %s is %q, want %q", tree.Text(f.Body), got, want)
			}
		}
	})
}

// Blanks change places only.
func TestBlanks(t *testing.T) {
	scripts(t, 200, func(c *chance, l []api.Stat) {
		text := tree.Text(l)
		other := strings.ReplaceAll(text, "\n", " \n\t")
		if len(other) > api.MaxSource {
			return
		}
		err, at := scope.Check(parsed(t, text))
		otherErr, otherAt := scope.Check(parsed(t, other))
		at += 2 * strings.Count(text[:at], "\n")
		if err == api.OK {
			at = 0
		}
		if otherErr != err || otherAt != at {
			t.Fatalf("17.2: Check of %s is %d, %d, want %d, %d", other, otherErr, otherAt, err, at)
		}
	})
}

// The first fault stays the first one, whatever follows.
func TestMoreText(t *testing.T) {
	scripts(t, 300, func(c *chance, l []api.Stat) {
		err, at := scope.Check(l)
		if err == api.OK {
			return
		}
		for _, more := range []string{"break", "x()", "type = 1", "return x", locals(151, true)} {
			longer := append(copyOf(l), parsed(t, more)...)
			if gotErr, gotAt := scope.Check(longer); gotErr != err || gotAt != at {
				t.Fatalf("17.2: Check of %s is %d, %d, want %d, %d", tree.Text(longer), gotErr, gotAt, err, at)
			}
		}
	})
}
