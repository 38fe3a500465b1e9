package effect_test

import (
	"fmt"
	"math"
	"slices"
	"strings"
	"testing"

	"scriptorium/api"
	"scriptorium/effect"
	"scriptorium/space"
	"scriptorium/value"
)

func text(s string) api.Value { return api.Value{Kind: api.KindString, Text: s} }

func list(l ...string) api.Value { return api.Value{Kind: api.KindList, List: l} }

func put(key string, v api.Value, until int64) api.Effect {
	return api.Effect{Entry: api.Entry{Key: key, Value: v, Until: until}}
}

func remove(key string) api.Effect {
	return api.Effect{Entry: api.Entry{Key: key}}
}

func same(a, b api.Entry) bool {
	return a.Key == b.Key && a.Until == b.Until && value.Same(a.Value, b.Value)
}

func sameEffect(a, b api.Effect) bool { return same(a.Entry, b.Entry) }

// valuesOfAllKinds are one of each kind.
func valuesOfAllKinds() []api.Value {
	return []api.Value{
		text("abc"),
		list("a", "", "bc"),
		{Kind: api.KindHash, Fields: []api.Field{{Name: "f", Text: "1"}, {Name: "g", Text: ""}}},
		{Kind: api.KindScores, Scores: []api.Score{{Name: "z", Score: -1}, {Name: "a", Score: 7}}},
		{Kind: api.KindPoints, Points: []api.Point{{Name: "p", At: 1 - 2i}, {Name: "q", At: -3i}}},
	}
}

// longest is a list with as many strings as there may be, of the greatest size.
func longest() api.Value {
	l := make([]string, api.MaxElems)
	room := api.MaxSize - 16 - 16*len(l)
	for i := range l {
		l[i] = strings.Repeat("x", room/(len(l)-i))
		room -= len(l[i])
	}
	return list(l...)
}

func validEffects() map[string]api.Effect {
	long := strings.Repeat("k", api.MaxKey)
	effects := map[string]api.Effect{
		"a removed key":                remove("k"),
		"a removed key of one byte":    remove("\x00"),
		"the longest removed key":      remove(long),
		"the longest but one, removed": remove(long[1:]),
		"a removed key that is blank":  remove(" \r\n\t"),
		"a string":                     put("k", text("v"), 0),
		"an empty string":              put("k", text(""), 0),
		"the longest string":           put("k", text(strings.Repeat("x", api.MaxText)), 0),
		"a time":                       put("k", text("v"), 5),
		"the first time":               put("k", text("v"), 1),
		"the last time":                put("k", text("v"), api.MaxTime),
		"the longest key":              put(long, text("v"), 5),
		"bytes of no text":             put("\xff\xc3(\r\n", text("\xff\x00"), 0),
		"the greatest list":            put(long, longest(), api.MaxTime),
		"removed with empty lists": {Entry: api.Entry{Key: "k", Value: api.Value{
			List: []string{}, Fields: []api.Field{}, Scores: []api.Score{}, Points: []api.Point{},
		}}},
	}
	for i, v := range valuesOfAllKinds() {
		effects["a "+value.Name(v.Kind)] = put("key", v, int64(i)<<40)
	}
	return effects
}

// invalidEffects have, where it may be, one fault only.
func invalidEffects() map[string]api.Effect {
	long := strings.Repeat("k", api.MaxKey+1)
	effects := map[string]api.Effect{
		"nothing":                     {},
		"an empty key":                put("", text("v"), 0),
		"a key too long":              put(long, text("v"), 0),
		"an empty removed key":        remove(""),
		"a removed key too long":      remove(long),
		"a far too long removed key":  remove(strings.Repeat(long, 99)),
		"a negative time":             put("k", text("v"), -1),
		"the least time":              put("k", text("v"), math.MinInt64),
		"a time too late":             put("k", text("v"), api.MaxTime+1),
		"the greatest time":           put("k", text("v"), math.MaxInt64),
		"a text too long":             put("k", text(strings.Repeat("x", api.MaxText+1)), 0),
		"a list without any":          put("k", list(), 0),
		"a list with a text":          put("k", api.Value{Kind: api.KindList, List: []string{"a"}, Text: "t"}, 0),
		"a kind too great":            put("k", api.Value{Kind: 6}, 0),
		"a kind too small":            put("k", api.Value{Kind: -1}, 0),
		"a kind that is 256":          put("k", api.Value{Kind: 256}, 0),
		"fields in another order":     put("k", api.Value{Kind: api.KindHash, Fields: []api.Field{{Name: "b"}, {Name: "a"}}}, 0),
		"a place that is none":        put("k", api.Value{Kind: api.KindPoints, Points: []api.Point{{Name: "p", At: 0.5}}}, 0),
		"a list that is too great":    put("k", list(append(longest().List[1:], longest().List[0]+"x")...), 0),
		"a list of too many":          put("k", list(make([]string, api.MaxElems+1)...), 0),
		"a scored name that is twice": put("k", api.Value{Kind: api.KindScores, Scores: []api.Score{{Name: "a"}, {Name: "a", Score: 1}}}, 0),
	}
	for _, until := range []int64{1, 5, -1, api.MaxTime, api.MaxTime + 1, math.MinInt64, math.MaxInt64, 1 << 32} {
		effects[fmt.Sprint("removed until ", until)] = put("k", api.Value{}, until)
	}
	for i, v := range valuesOfAllKinds() {
		v.Kind = api.KindNone
		effects[fmt.Sprint("removed with what is of kind ", i+1)] = put("k", v, 0)
	}
	for what, v := range map[string]api.Value{
		"an empty string": list(""), "an empty field": {Fields: make([]api.Field, 1)},
		"an empty score": {Scores: make([]api.Score, 1)}, "an empty point": {Points: make([]api.Point, 1)},
	} {
		v.Kind = api.KindNone
		effects["removed with "+what] = put("k", v, 0)
	}
	return effects
}

func TestMay(t *testing.T) {
	for what, e := range validEffects() {
		if !effect.May(e) {
			t.Errorf("11.1: May: %s: false", what)
		}
	}
	for what, e := range invalidEffects() {
		if effect.May(e) {
			t.Errorf("11.1: May: %s: true", what)
		}
	}
}

// of is a Space with these entries.
func of(t *testing.T, l ...api.Entry) *space.Space {
	t.Helper()
	s := space.New()
	for _, e := range l {
		if err := s.Put(e); err != api.OK {
			t.Fatalf("Put of %q: %d", e.Key, err)
		}
	}
	return s
}

// wantAll holds the entries of a Space, rising by their keys, against those that are wanted.
func wantAll(t *testing.T, what string, s *space.Space, want ...api.Entry) {
	t.Helper()
	if got := s.All(); !slices.EqualFunc(got, want, same) {
		t.Fatalf("%s: the Space has %.200v, want %.200v", what, got, want)
	}
}

func wantApply(t *testing.T, s *space.Space, e api.Effect, want int) {
	t.Helper()
	if err := effect.Apply(s, e); err != want {
		t.Fatalf("11.2: Apply of %.100v: %d, want %d", e, err, want)
	}
}

func TestApply(t *testing.T) {
	a, b, z := put("a", list("x", "y"), 0), put("b", text("1"), 5), put("b", list("z"), 0)
	s := space.New()
	wantApply(t, s, b, api.OK)
	wantApply(t, s, a, api.OK)
	wantAll(t, "11.2: two keys are put", s, a.Entry, b.Entry)
	wantApply(t, s, z, api.OK)
	wantAll(t, "11.2: an entry is put in another's place", s, a.Entry, z.Entry)
	wantApply(t, s, remove("a"), api.OK)
	wantAll(t, "11.2: a key is removed", s, z.Entry)
	for _, key := range []string{"a", "c", "B", "bb", "b\x00"} {
		wantApply(t, s, remove(key), api.OK)
		wantAll(t, "11.2: a key is removed that is not there", s, z.Entry)
	}
	wantApply(t, s, remove("b"), api.OK)
	wantAll(t, "11.2: the last key is removed", s)
	wantApply(t, s, remove("b"), api.OK)
	wantAll(t, "11.2: a key is removed from an empty Space", s)
}

func TestApplyOfAllEffects(t *testing.T) {
	other := put("other", text("o"), 7).Entry
	for what, e := range validEffects() {
		var want []api.Entry
		if e.Entry.Value.Kind != api.KindNone {
			want = append(want, e.Entry)
		}
		for _, s := range []*space.Space{space.New(), of(t, put(e.Entry.Key, text("old"), 3).Entry)} {
			wantApply(t, s, e, api.OK)
			wantAll(t, "11.2: "+what, s, want...)
		}
		s := of(t, other)
		wantApply(t, s, e, api.OK)
		if got, ok := s.Has("other"); !ok || !same(got, other) {
			t.Errorf("11.2: %s: the other key has %v", what, got)
		}
	}
}

func TestApplyOfInvalidEffects(t *testing.T) {
	k := put("k", text("v"), 5).Entry
	for what, e := range invalidEffects() {
		s := of(t, k)
		wantApply(t, s, e, api.ErrArg)
		wantAll(t, "11.2: "+what, s, k)
	}
}

func TestApplyToNoSpace(t *testing.T) {
	for _, e := range []api.Effect{put("k", text("v"), 0), put("k", list("a"), 5), remove("k"), remove(""), {}, put("", text("v"), -1)} {
		wantApply(t, nil, e, api.ErrArg)
	}
}

func TestApplyToASpaceThatNewDidNotMake(t *testing.T) {
	var s space.Space
	wantApply(t, &s, remove("k"), api.OK)
	wantApply(t, &s, put("k", text("v"), 5), api.OK)
	wantAll(t, "11.2: a key is put", &s, put("k", text("v"), 5).Entry)
}

// What has expired is there until it is removed, for effects too.
func TestApplyToExpiredKeys(t *testing.T) {
	s := of(t, put("a", text("v"), 1).Entry, put("b", text("v"), 1).Entry)
	wantApply(t, s, remove("a"), api.OK)
	wantApply(t, s, put("b", text("w"), 2), api.OK)
	wantApply(t, s, put("c", text("x"), 1), api.OK)
	wantAll(t, "11.2: expired keys", s, put("b", text("w"), 2).Entry, put("c", text("x"), 1).Entry)
}

// full has as many keys as there may be.
func full(t *testing.T) *space.Space {
	t.Helper()
	s := space.New()
	for i := range api.MaxKeys {
		s.Put(put(fmt.Sprint(i), text("v"), 0).Entry)
	}
	if len(s.All()) != api.MaxKeys {
		t.Fatalf("%d keys", len(s.All()))
	}
	return s
}

func TestMaxKeys(t *testing.T) {
	s := full(t)
	before := s.All()
	wantApply(t, s, put("new", text("v"), 0), api.ErrLimit)
	wantApply(t, s, put("new", text("v"), -1), api.ErrArg)
	wantApply(t, s, put("new", api.Value{Kind: 6}, 0), api.ErrArg)
	wantApply(t, s, remove("new"), api.OK)
	wantAll(t, "11.2: as many keys as may be", s, before...)
	wantApply(t, s, put("0", text("w"), 9), api.OK)
	wantApply(t, s, remove("17"), api.OK)
	wantApply(t, s, put("new", text("v"), 0), api.OK)
	wantApply(t, s, put("17", text("v"), 0), api.ErrLimit)
	for _, want := range []api.Entry{put("0", text("w"), 9).Entry, put("new", text("v"), 0).Entry} {
		if e, ok := s.Has(want.Key); !ok || !same(e, want) {
			t.Errorf("11.2: %q has %v", want.Key, e)
		}
	}
}

func wantAllOf(t *testing.T, s *space.Space, l []api.Effect, want int) {
	t.Helper()
	if err := effect.All(s, l); err != want {
		t.Fatalf("11.2: All of %.200v: %d, want %d", l, err, want)
	}
}

func TestAll(t *testing.T) {
	s := of(t, put("old", text("o"), 0).Entry)
	for _, l := range [][]api.Effect{nil, {}} {
		wantAllOf(t, s, l, api.OK)
		wantAll(t, "11.2: no effects", s, put("old", text("o"), 0).Entry)
	}
	wantAllOf(t, s, []api.Effect{put("b", text("1"), 5), put("a", list("x"), 0), remove("old")}, api.OK)
	wantAll(t, "11.2: three effects", s, put("a", list("x"), 0).Entry, put("b", text("1"), 5).Entry)
	wantAllOf(t, s, []api.Effect{remove("a"), put("a", text("2"), 0), put("b", text("3"), 0), remove("b"), put("a", text("4"), 9)}, api.OK)
	wantAll(t, "11.2: effects of the same keys", s, put("a", text("4"), 9).Entry)
}

func TestAllStopsAtTheFirstError(t *testing.T) {
	a, b, c := put("a", text("1"), 0), put("b", text("2"), 5), put("c", text("3"), 0)
	for what, wrong := range invalidEffects() {
		s := space.New()
		wantAllOf(t, s, []api.Effect{a, wrong}, api.ErrArg)
		wantAll(t, "11.2: behind one: "+what, s, a.Entry)
		s = space.New()
		wantAllOf(t, s, []api.Effect{a, b, wrong, c, remove("a"), wrong}, api.ErrArg)
		wantAll(t, "11.2: in between: "+what, s, a.Entry, b.Entry)
		s = of(t, c.Entry)
		wantAllOf(t, s, []api.Effect{wrong, a, remove("c")}, api.ErrArg)
		wantAll(t, "11.2: first: "+what, s, c.Entry)
	}
}

func TestAllReturnsTheFirstError(t *testing.T) {
	s := full(t)
	s.Del("7")
	a, b, wrong := put("a", text("1"), 0), put("b", text("2"), 0), put("k", text("v"), -1)
	wantAllOf(t, s, []api.Effect{a, b, wrong, remove("1"), b}, api.ErrLimit)
	if _, ok := s.Has("a"); !ok {
		t.Error("11.2: what stands in front of an effect that fails is not there")
	}
	if _, ok := s.Has("b"); ok {
		t.Error("11.2: one key too many is there")
	}
	if _, ok := s.Has("1"); !ok {
		t.Error("11.2: what stands behind an effect that fails was done")
	}
	wantAllOf(t, s, []api.Effect{wrong, b}, api.ErrArg)
	wantAllOf(t, s, []api.Effect{remove("1"), b, wrong}, api.ErrArg)
	wantAllOf(t, s, []api.Effect{remove("2"), put("c", text("3"), 0)}, api.OK)
}

func TestAllWithoutASpace(t *testing.T) {
	wantAllOf(t, nil, nil, api.OK)
	wantAllOf(t, nil, []api.Effect{remove("k")}, api.ErrArg)
	wantAllOf(t, nil, []api.Effect{put("k", text("v"), 0), remove("k")}, api.ErrArg)
}

// turn changes all elements of all lists of v.
func turn(v api.Value) {
	for i := range v.List {
		v.List[i] = "turned"
	}
	for i := range v.Fields {
		v.Fields[i] = api.Field{Name: "turned", Text: "turned"}
	}
	for i := range v.Scores {
		v.Scores[i] = api.Score{Name: "turned", Score: 99}
	}
	for i := range v.Points {
		v.Points[i] = api.Point{Name: "turned", At: 99}
	}
}

func TestNothingIsShared(t *testing.T) {
	for _, v := range valuesOfAllKinds() {
		given, want := put("k", value.Clone(v), 5), put("k", v, 5)
		one, more := space.New(), space.New()
		wantApply(t, one, given, api.OK)
		wantAllOf(t, more, []api.Effect{given}, api.OK)
		effect.May(given)
		effect.Put(given)
		if !sameEffect(given, want) {
			t.Errorf("11.2: %v was changed to %v", want, given)
		}
		turn(given.Entry.Value)
		wantAll(t, "11.2: an effect is changed that was applied", one, want.Entry)
		wantAll(t, "11.2: an effect is changed that was applied by All", more, want.Entry)
	}
}
