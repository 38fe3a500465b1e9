package space_test

import (
	"fmt"
	"math"
	"slices"
	"strings"
	"testing"
	"unsafe"

	"scriptorium/api"
	"scriptorium/space"
	"scriptorium/value"
)

func text(s string) api.Value { return api.Value{Kind: api.KindString, Text: s} }

func list(l ...string) api.Value { return api.Value{Kind: api.KindList, List: l} }

// entry has its key's text as its value.
func entry(key string, until int64) api.Entry {
	return api.Entry{Key: key, Value: text("of " + key), Until: until}
}

// of is a Space with these entries, which Put takes in one after another.
func of(t *testing.T, l ...api.Entry) *space.Space {
	t.Helper()
	s := space.New()
	for _, e := range l {
		if err := s.Put(e); err != api.OK {
			t.Fatalf("10.1: Put of %q until %d: %d", e.Key, e.Until, err)
		}
	}
	return s
}

func same(a, b api.Entry) bool {
	return a.Key == b.Key && a.Until == b.Until && value.Same(a.Value, b.Value)
}

// isZero reports whether e is as what comes beside a false.
func isZero(e api.Entry) bool {
	return same(e, api.Entry{})
}

// valuesOfAllKinds are one of each kind.
func valuesOfAllKinds() []api.Value {
	return []api.Value{
		text("abc"),
		list("a", "", "bc"),
		{Kind: api.KindHash, Fields: []api.Field{{Name: "f", Text: "1"}, {Name: "g", Text: ""}}},
		{Kind: api.KindScores, Scores: []api.Score{{Name: "z", Score: -1}, {Name: "a", Score: 7}}},
		{Kind: api.KindPoints, Points: []api.Point{{Name: "p", At: 1 - 2i}, {Name: "q", At: -3i}}},
	}
}

func TestMay(t *testing.T) {
	long := strings.Repeat("k", api.MaxKey)
	for name, e := range map[string]api.Entry{
		"a string":         entry("k", 0),
		"one byte":         entry("\x00", 5),
		"the longest key":  entry(long, 5),
		"the last time":    entry("k", api.MaxTime),
		"the first time":   entry("k", 1),
		"bytes of no text": entry("\xff\xc3(\r\n", 0),
		"an empty text":    {Key: "k", Value: text("")},
		"a list":           {Key: "k", Value: list("a"), Until: 9},
	} {
		if !space.May(e) {
			t.Errorf("10.1: May: %s: false", name)
		}
		if err := space.New().Put(e); err != api.OK {
			t.Errorf("10.1: Put: %s: %d", name, err)
		}
	}
	for name, e := range invalidEntries() {
		if space.May(e) {
			t.Errorf("10.1: May: %s: true", name)
		}
	}
}

func invalidEntries() map[string]api.Entry {
	long := strings.Repeat("k", api.MaxKey+1)
	return map[string]api.Entry{
		"nothing":              {},
		"an empty key":         entry("", 0),
		"a key too long":       entry(long, 0),
		"a far too long key":   entry(strings.Repeat(long, 99), 0),
		"a negative time":      entry("k", -1),
		"the least time":       entry("k", math.MinInt64),
		"a time too late":      entry("k", api.MaxTime+1),
		"the greatest time":    entry("k", math.MaxInt64),
		"no value":             {Key: "k"},
		"no value, with until": {Key: "k", Until: 5},
		"a list without any":   {Key: "k", Value: api.Value{Kind: api.KindList}},
		"a kind too great":     {Key: "k", Value: api.Value{Kind: 6}},
		"a text too long":      {Key: "k", Value: text(strings.Repeat("x", api.MaxText+1))},
		"two fields":           {Key: "k", Value: api.Value{Kind: api.KindString, Text: "a", List: []string{"b"}}},
		"a place that is none": {Key: "k", Value: api.Value{Kind: api.KindPoints, Points: []api.Point{{Name: "p", At: 0.5}}}},
	}
}

func TestOver(t *testing.T) {
	for _, c := range []struct {
		until, now int64
		want       bool
	}{
		{9, 9, true}, {10, 9, false}, {0, 9, false},
		{8, 9, true}, {1, 0, false}, {1, 1, true}, {1, 2, true}, {1, -1, false}, {1, math.MinInt64, false}, {1, math.MaxInt64, true},
		{0, 0, false}, {0, -1, false}, {0, math.MaxInt64, false}, {0, math.MinInt64, false},
		{api.MaxTime, api.MaxTime, true}, {api.MaxTime, api.MaxTime - 1, false}, {api.MaxTime, math.MaxInt64, true},
		{math.MaxInt64, math.MaxInt64, true}, {math.MaxInt64, math.MaxInt64 - 1, false},
		{-1, 0, true}, {-1, -1, true}, {-1, -2, false}, {math.MinInt64, math.MinInt64, true},
		{1 << 32, 1, false}, {1<<32 + 1, 1 << 32, false},
	} {
		if got := space.Over(api.Entry{Until: c.until}, c.now); got != c.want {
			t.Errorf("10.1: Over until %d at %d: %v", c.until, c.now, got)
		}
	}
	if !space.Over(api.Entry{Key: "", Value: api.Value{Kind: 9}, Until: 3}, 4) {
		t.Error("10.1: Over asks for Until alone")
	}
}

func TestGet(t *testing.T) {
	s := of(t, api.Entry{Key: "k", Value: text("a"), Until: 5}, entry("b", 0))
	for _, now := range []int64{math.MinInt64, -1, 0, 3, 4} {
		if e, ok := s.Get("k", now); !ok || !same(e, api.Entry{Key: "k", Value: text("a"), Until: 5}) {
			t.Errorf("10.1: Get at %d: %v %v", now, e, ok)
		}
	}
	for _, now := range []int64{5, 6, math.MaxInt64} {
		if e, ok := s.Get("k", now); ok || !isZero(e) {
			t.Errorf("10.1: Get at %d: %v %v", now, e, ok)
		}
	}
	if e, ok := s.Get("b", math.MaxInt64); !ok || !same(e, entry("b", 0)) {
		t.Errorf("10.1: Get of what never ends: %v %v", e, ok)
	}
	for _, key := range []string{"", "a", "kk", "K", "b\x00"} {
		if e, ok := s.Get(key, 0); ok || !isZero(e) {
			t.Errorf("10.1: Get(%q): %v %v", key, e, ok)
		}
	}
}

func TestGetRemovesNothing(t *testing.T) {
	s := of(t, entry("k", 5))
	s.Get("k", 9)
	s.Keys(9)
	s.Ended(9, 9)
	if e, ok := s.Get("k", 4); !ok || !same(e, entry("k", 5)) {
		t.Errorf("10.2: Get of what had ended at a later time: %v %v", e, ok)
	}
}

func TestHas(t *testing.T) {
	s := of(t, entry("k", 5), entry("b", 0))
	for _, want := range []api.Entry{entry("k", 5), entry("b", 0)} {
		if e, ok := s.Has(want.Key); !ok || !same(e, want) {
			t.Errorf("10.1: Has(%q): %v %v", want.Key, e, ok)
		}
	}
	for _, key := range []string{"", "a", "kb", strings.Repeat("k", 999)} {
		if e, ok := s.Has(key); ok || !isZero(e) {
			t.Errorf("10.1: Has(%q): %v %v", key, e, ok)
		}
	}
}

func TestPutOfAllKinds(t *testing.T) {
	s := space.New()
	for i, v := range valuesOfAllKinds() {
		want := api.Entry{Key: "k", Value: v, Until: int64(i)}
		if err := s.Put(want); err != api.OK {
			t.Fatalf("10.1: Put of kind %d: %d", v.Kind, err)
		}
		if e, ok := s.Has("k"); !ok || !same(e, want) {
			t.Errorf("10.1: Has after Put of kind %d: %v %v", v.Kind, e, ok)
		}
		if got := s.Memory(); got != 33+value.Size(v) {
			t.Errorf("10.1: Memory after Put of kind %d: %d", v.Kind, got)
		}
	}
}

func TestPutReplacesAll(t *testing.T) {
	s := of(t, entry("k", 5), entry("k", 0))
	if e, ok := s.Get("k", 9); !ok || e.Until != 0 {
		t.Errorf("10.1: Put takes away the end: %v %v", e, ok)
	}
	s.Put(entry("k", 9))
	if _, ok := s.Get("k", 9); ok {
		t.Error("10.1: Put of another end")
	}
	if all := s.All(); len(all) != 1 {
		t.Errorf("10.1: All after three times Put of one key: %v", all)
	}
}

func TestPutOfInvalidEntries(t *testing.T) {
	s := of(t, entry("k", 5))
	for name, e := range invalidEntries() {
		if err := s.Put(e); err != api.ErrArg {
			t.Errorf("10.1: Put: %s: %d", name, err)
		}
	}
	if all := s.All(); len(all) != 1 || !same(all[0], entry("k", 5)) || s.Memory() != 32+1+16+4 {
		t.Errorf("10.1: after wrong entries: %v, %d", all, s.Memory())
	}
}

// full has as many keys as there may be: half of them end at 5.
func full(t *testing.T) *space.Space {
	s := space.New()
	for i := range api.MaxKeys {
		if err := s.Put(entry(fmt.Sprint(i), int64(i%2*5))); err != api.OK {
			t.Fatalf("10.1: Put of key %d: %d", i, err)
		}
	}
	return s
}

func TestMaxKeys(t *testing.T) {
	s := full(t)
	if err := s.Put(entry("new", 0)); err != api.ErrLimit {
		t.Errorf("10.1: Put of a new key: %d", err)
	}
	if _, ok := s.Has("new"); ok || len(s.All()) != api.MaxKeys {
		t.Error("10.1: a new key beyond the limit was taken in")
	}
	if err := s.Put(api.Entry{Key: "new"}); err != api.ErrArg {
		t.Errorf("10.1: Put of an invalid new key: %d, but ErrArg comes first", err)
	}
	for _, key := range []string{"0", "1", "4095"} {
		if err := s.Put(entry(key, 7)); err != api.OK {
			t.Errorf("10.1: Put of key %s, which is there: %d", key, err)
		}
	}
	if !s.Del("17") {
		t.Error("10.1: Del of 17")
	}
	if err := s.Put(entry("new", 0)); err != api.OK {
		t.Errorf("10.1: Put of a new key with one key less: %d", err)
	}
	if err := s.Put(entry("17", 0)); err != api.ErrLimit {
		t.Errorf("10.1: Put of a removed key with %d keys: %d", api.MaxKeys, err)
	}
}

func TestManyKeys(t *testing.T) {
	s := full(t)
	if n := len(s.Keys(4)); n != api.MaxKeys {
		t.Errorf("10.1: Keys at 4: %d", n)
	}
	if n := len(s.Keys(5)); n != api.MaxKeys/2 {
		t.Errorf("10.1: Keys at 5: %d", n)
	}
	if n := len(s.Ended(5, math.MaxInt)); n != api.MaxKeys/2 {
		t.Errorf("10.1: Ended at 5: %d", n)
	}
	if keys := s.Keys(4); !slices.IsSorted(keys) {
		t.Error("10.1: Keys do not rise")
	}
	for i := range api.MaxKeys {
		if !s.Del(fmt.Sprint(i)) {
			t.Fatalf("10.1: Del of key %d", i)
		}
	}
	if len(s.All()) != 0 || s.Memory() != 0 || len(s.Keys(0)) != 0 || len(s.Ended(9, 9)) != 0 {
		t.Error("10.1: something is left in a Space whose keys were removed")
	}
}

func TestDel(t *testing.T) {
	s := of(t, entry("a", 0), entry("b", 5), entry("c", 0))
	for _, key := range []string{"", "d", "aa"} {
		if s.Del(key) {
			t.Errorf("10.1: Del(%q) is true", key)
		}
	}
	for i, key := range []string{"b", "a", "c"} {
		if !s.Del(key) {
			t.Errorf("10.1: Del(%q) is false", key)
		}
		if s.Del(key) {
			t.Errorf("10.1: the second Del(%q) is true", key)
		}
		if _, ok := s.Has(key); ok || len(s.All()) != 2-i {
			t.Errorf("10.1: %q is there after Del, or others are not: %v", key, s.All())
		}
	}
	if s.Put(entry("b", 3)) != api.OK {
		t.Error("10.1: Put after Del")
	}
	if e, ok := s.Has("b"); !ok || !same(e, entry("b", 3)) {
		t.Errorf("10.1: Has after Del and Put: %v %v", e, ok)
	}
}

func TestKeysAndAll(t *testing.T) {
	keys := []string{"b", "a\x00", "\xff", "ab", "a", "\x00", "B"}
	rising := []string{"\x00", "B", "a", "a\x00", "ab", "b", "\xff"}
	s := space.New()
	if len(s.Keys(0)) != 0 || len(s.All()) != 0 {
		t.Error("10.1: a new Space is not empty")
	}
	for i, key := range keys {
		s.Put(entry(key, int64(i)))
	}
	if got := s.Keys(0); !slices.Equal(got, rising) {
		t.Errorf("10.1: Keys: %q", got)
	}
	if got := s.Keys(3); !slices.Equal(got, []string{"\x00", "B", "a", "b"}) {
		t.Errorf("10.1: Keys at 3: %q", got)
	}
	if got := s.Keys(9); !slices.Equal(got, []string{"b"}) {
		t.Errorf("10.1: Keys at 9: %q", got)
	}
	all := s.All()
	if len(all) != len(rising) {
		t.Fatalf("10.1: All: %v", all)
	}
	for i, e := range all {
		if !same(e, entry(rising[i], int64(slices.Index(keys, rising[i])))) {
			t.Errorf("10.1: All has %v at %d", e, i)
		}
	}
}

func TestEnded(t *testing.T) {
	s := of(t, entry("k", 5), entry("b", 0), entry("c", 3))
	for _, c := range []struct {
		now  int64
		n    int
		want []string
	}{
		{9, 9, []string{"c", "k"}}, {9, 2, []string{"c", "k"}}, {9, 1, []string{"c"}}, {9, math.MaxInt, []string{"c", "k"}},
		{9, 0, nil}, {9, -1, nil}, {9, math.MinInt, nil},
		{5, 9, []string{"c", "k"}}, {4, 9, []string{"c"}}, {3, 9, []string{"c"}}, {2, 9, nil}, {0, 9, nil}, {-1, 9, nil},
		{math.MaxInt64, 9, []string{"c", "k"}}, {math.MinInt64, 9, nil},
	} {
		if got := s.Ended(c.now, c.n); !slices.Equal(got, c.want) {
			t.Errorf("10.1: Ended(%d, %d): %q", c.now, c.n, got)
		}
	}
	if len(s.All()) != 3 {
		t.Error("10.1: Ended removed keys")
	}
}

func TestEndedOfOneTime(t *testing.T) {
	s := of(t, entry("d", 7), entry("a", 7), entry("z", 6), entry("ab", 7), entry("\xff", 7), entry("c", api.MaxTime), entry("b", 1<<33))
	want := []string{"z", "a", "ab", "d", "\xff", "b", "c"}
	for n := range want {
		if got := s.Ended(api.MaxTime, n); !slices.Equal(got, want[:n]) {
			t.Errorf("10.1: Ended, first %d: %q", n, got)
		}
	}
	if got := s.Ended(api.MaxTime-1, 9); !slices.Equal(got, want[:6]) {
		t.Errorf("10.1: Ended ahead of the last one: %q", got)
	}
}

func TestMemory(t *testing.T) {
	s := space.New()
	if s.Memory() != 0 {
		t.Errorf("10.1: Memory of an empty Space: %d", s.Memory())
	}
	s = of(t, api.Entry{Key: "k", Value: text("x"), Until: 5}, api.Entry{Key: "b", Value: text("yy")}, api.Entry{Key: "c", Value: text(""), Until: 3})
	if got := s.Memory(); got != 3*49+3 {
		t.Errorf("10.1: Memory of the three keys: %d", got)
	}
	for _, c := range []struct {
		e    api.Entry
		want int
	}{
		{api.Entry{Key: "k", Value: text("xyz")}, 3*49 + 5},
		{api.Entry{Key: "k", Value: list("a", "bc")}, 3*49 + 2 + 32 + 3},
		{api.Entry{Key: "k", Value: text("")}, 3*49 + 2},
		{api.Entry{Key: "long key", Value: text("")}, 4*49 + 9},
	} {
		s.Put(c.e)
		if got := s.Memory(); got != c.want {
			t.Errorf("10.1: Memory after Put of %v: %d, not %d", c.e, got, c.want)
		}
	}
	s.Del("b")
	s.Del("none")
	if got := s.Memory(); got != 3*49+7 {
		t.Errorf("10.1: Memory after Del: %d", got)
	}
}

// turn changes all elements of all lists of v.
func turn(v api.Value) {
	for i := range v.List {
		v.List[i] = "turned"
	}
	for i := range v.Fields {
		v.Fields[i] = api.Field{Name: "turned", Text: "turned"}
	}
	for i := range v.Scores {
		v.Scores[i] = api.Score{Name: "turned", Score: 99}
	}
	for i := range v.Points {
		v.Points[i] = api.Point{Name: "turned", At: 99}
	}
}

func TestNothingIsShared(t *testing.T) {
	for _, v := range valuesOfAllKinds() {
		want := api.Entry{Key: "k", Value: v, Until: 5}
		s := space.New()
		given := api.Entry{Key: "k", Value: value.Clone(v), Until: 5}
		s.Put(given)
		turn(given.Value)
		got, _ := s.Get("k", 4)
		turn(got.Value)
		had, _ := s.Has("k")
		turn(had.Value)
		turn(s.All()[0].Value)
		if e, ok := s.Has("k"); !ok || !same(e, want) {
			t.Errorf("10.1: kind %d: changed from outside: %v", v.Kind, e)
		}
	}
}

func TestPutChangesNothing(t *testing.T) {
	for _, v := range valuesOfAllKinds() {
		e := api.Entry{Key: "k", Value: value.Clone(v), Until: 5}
		s := of(t, e, e)
		s.Del("k")
		if !same(e, api.Entry{Key: "k", Value: v, Until: 5}) {
			t.Errorf("10.1: kind %d: Put changed what it was given: %v", v.Kind, e)
		}
	}
}

// TestKeysAreCopied holds that a key that was cut from a great text does not keep all
// of it: what is kept lies elsewhere.
func TestKeysAreCopied(t *testing.T) {
	b := []byte("key and more")
	e := entry(unsafe.String(&b[0], 3), 0)
	s := of(t, e)
	copy(b, "xxx")
	if got, ok := s.Has("key"); !ok || !same(got, entry("key", 0)) {
		t.Errorf("10.1: Put keeps the bytes of a key that it was given: %v %v", got, ok)
	}
	if got := s.Keys(0); !slices.Equal(got, []string{"key"}) {
		t.Errorf("10.1: Keys has the bytes of a key that Put was given: %q", got)
	}
}

func TestNil(t *testing.T) {
	var s *space.Space
	if err := s.Put(entry("k", 5)); err != api.ErrArg {
		t.Errorf("10.1: Put of a nil Space: %d", err)
	}
	if err := s.Put(api.Entry{}); err != api.ErrArg {
		t.Errorf("10.1: Put of an invalid entry in a nil Space: %d", err)
	}
	if e, ok := s.Get("k", 0); ok || !isZero(e) {
		t.Errorf("10.1: Get of a nil Space: %v %v", e, ok)
	}
	if e, ok := s.Has("k"); ok || !isZero(e) {
		t.Errorf("10.1: Has of a nil Space: %v %v", e, ok)
	}
	if s.Del("k") || len(s.Keys(0)) != 0 || len(s.All()) != 0 || len(s.Ended(9, 9)) != 0 || s.Memory() != 0 {
		t.Error("10.1: a nil Space is not empty")
	}
}

func TestSpaceThatNewDidNotMake(t *testing.T) {
	var s space.Space
	if _, ok := s.Get("k", 0); ok || s.Del("k") || len(s.Keys(0)) != 0 || len(s.All()) != 0 || len(s.Ended(9, 9)) != 0 || s.Memory() != 0 {
		t.Error("10.1: it is not empty")
	}
	if err := s.Put(entry("k", 5)); err != api.OK {
		t.Errorf("10.1: Put: %d", err)
	}
	if e, ok := s.Get("k", 4); !ok || !same(e, entry("k", 5)) {
		t.Errorf("10.1: Get: %v %v", e, ok)
	}
}
