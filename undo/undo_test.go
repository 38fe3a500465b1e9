package undo_test

import (
	"fmt"
	"math"
	"slices"
	"strings"
	"testing"
	"unsafe"

	"scriptorium/api"
	"scriptorium/space"
	"scriptorium/undo"
	"scriptorium/value"
)

func text(s string) api.Value { return api.Value{Kind: api.KindString, Text: s} }

func list(l ...string) api.Value { return api.Value{Kind: api.KindList, List: l} }

func put(key string, v api.Value, until int64) api.Effect {
	return api.Effect{Entry: api.Entry{Key: key, Value: v, Until: until}}
}

func remove(key string) api.Effect {
	return api.Effect{Entry: api.Entry{Key: key}}
}

func same(a, b api.Entry) bool {
	return a.Key == b.Key && a.Until == b.Until && value.Same(a.Value, b.Value)
}

func sameEffect(a, b api.Effect) bool { return same(a.Entry, b.Entry) }

// valuesOfAllKinds are one of each kind.
func valuesOfAllKinds() []api.Value {
	return []api.Value{
		text("abc"),
		list("a", "", "bc"),
		{Kind: api.KindHash, Fields: []api.Field{{Name: "f", Text: "1"}, {Name: "g", Text: ""}}},
		{Kind: api.KindScores, Scores: []api.Score{{Name: "z", Score: -1}, {Name: "a", Score: 7}}},
		{Kind: api.KindPoints, Points: []api.Point{{Name: "p", At: 1 - 2i}, {Name: "q", At: -3i}}},
	}
}

func invalidEffects() map[string]api.Effect {
	long := strings.Repeat("k", api.MaxKey+1)
	return map[string]api.Effect{
		"nothing":                 {},
		"an empty key":            put("", text("v"), 0),
		"a key too long":          put(long, text("v"), 0),
		"a removed key too long":  remove(long),
		"a negative time":         put("k", text("v"), -1),
		"a time too late":         put("k", text("v"), api.MaxTime+1),
		"the greatest time":       put("k", text("v"), math.MaxInt64),
		"a text too long":         put("k", text(strings.Repeat("x", api.MaxText+1)), 0),
		"a list without any":      put("k", list(), 0),
		"a kind too great":        put("k", api.Value{Kind: 6}, 0),
		"removed until 5":         put("k", api.Value{}, 5),
		"removed with a text":     put("k", api.Value{Text: "t"}, 0),
		"fields in another order": put("k", api.Value{Kind: api.KindHash, Fields: []api.Field{{Name: "b"}, {Name: "a"}}}, 0),
		"a place that is none":    put("k", api.Value{Kind: api.KindPoints, Points: []api.Point{{Name: "p", At: 0.5}}}, 0),
	}
}

// of is a Space with the entries of these effects.
func of(t *testing.T, l ...api.Effect) *space.Space {
	t.Helper()
	s := space.New()
	for _, e := range l {
		if err := s.Put(e.Entry); err != api.OK {
			t.Fatalf("Put of %q: %d", e.Entry.Key, err)
		}
	}
	return s
}

// full has as many keys as there may be.
func full(t *testing.T) *space.Space {
	t.Helper()
	s := space.New()
	for i := range api.MaxKeys {
		s.Put(put(fmt.Sprint(i), text("v"), 0).Entry)
	}
	if len(s.All()) != api.MaxKeys {
		t.Fatalf("%d keys", len(s.All()))
	}
	return s
}

func entries(l ...api.Effect) []api.Entry {
	var all []api.Entry
	for _, e := range l {
		all = append(all, e.Entry)
	}
	return all
}

// wantAll holds the entries of a Space, rising by their keys, against those that are wanted.
func wantAll(t *testing.T, what string, s *space.Space, want ...api.Entry) {
	t.Helper()
	if got := s.All(); !slices.EqualFunc(got, want, same) {
		t.Fatalf("%s: the Space has %.300v, want %.300v", what, got, want)
	}
}

func wantDo(t *testing.T, u *undo.Undo, e api.Effect, want int) {
	t.Helper()
	if err := u.Do(e); err != want {
		t.Fatalf("12.1: Do of %.100v: %d, want %d", e, err, want)
	}
}

// wantDone calls Do for effects that are all applied.
func wantDone(t *testing.T, u *undo.Undo, l ...api.Effect) {
	t.Helper()
	for _, e := range l {
		wantDo(t, u, e, api.OK)
	}
}

func wantTo(t *testing.T, u *undo.Undo, mark int, want bool) {
	t.Helper()
	if got := u.To(mark); got != want {
		t.Fatalf("12.1: To(%d): %v", mark, got)
	}
}

// wantRecorded holds Effects and Mark against the effects that are wanted.
func wantRecorded(t *testing.T, what string, u *undo.Undo, want ...api.Effect) {
	t.Helper()
	if got := u.Effects(); !slices.EqualFunc(got, want, sameEffect) {
		t.Fatalf("12.1: %s: Effects: %.300v, want %.300v", what, got, want)
	}
	if got := u.Mark(); got != len(want) {
		t.Fatalf("12.1: %s: Mark: %d, want %d", what, got, len(want))
	}
}

func TestExamples(t *testing.T) {
	s := space.New()
	u := undo.New(s)
	wantDo(t, u, api.Effect{}, api.ErrArg)
	wantDone(t, u, put("a", text("1"), 0))
	u.Back()
	if _, ok := s.Has("a"); ok {
		t.Error("12.1: a is there after Back")
	}
	wantDone(t, u, put("a", text("1"), 0), put("b", text("2"), 0))
	if n := u.Mark(); n != 2 {
		t.Errorf("12.1: after two effects Mark is %d", n)
	}
	wantDone(t, u, remove("a"), put("b", text("3"), 9))
	wantTo(t, u, 5, false)
	wantTo(t, u, -1, false)
	wantRecorded(t, "after To(5) and To(-1)", u, put("a", text("1"), 0), put("b", text("2"), 0), remove("a"), put("b", text("3"), 9))
	wantAll(t, "12.1: after To(5) and To(-1)", s, put("b", text("3"), 9).Entry)
}

func TestNew(t *testing.T) {
	if undo.New(nil) != nil {
		t.Error("12.1: New of no Space is not nil")
	}
	s := of(t, put("k", text("v"), 5))
	u := undo.New(s)
	if u == nil {
		t.Fatal("12.1: New of a Space is nil")
	}
	wantRecorded(t, "New", u)
	wantAll(t, "12.1: New", s, put("k", text("v"), 5).Entry)
	if undo.New(s) == u {
		t.Error("12.1: New returns the same Undo twice")
	}
}

// An Undo keeps its Space: what is done to the one is seen by the other.
func TestTheSpaceIsKept(t *testing.T) {
	s := space.New()
	u := undo.New(s)
	s.Put(put("k", text("other"), 3).Entry)
	wantDone(t, u, put("k", text("v"), 0))
	wantAll(t, "12.1: Do", s, put("k", text("v"), 0).Entry)
	s.Put(put("n", text("other"), 0).Entry)
	u.Back()
	wantAll(t, "12.2: Back", s, put("k", text("other"), 3).Entry, put("n", text("other"), 0).Entry)
}

func TestNil(t *testing.T) {
	var u *undo.Undo
	for _, e := range []api.Effect{put("k", text("v"), 0), remove("k"), {}} {
		wantDo(t, u, e, api.ErrArg)
	}
	for _, mark := range []int{0, 1, -1, math.MaxInt, math.MinInt} {
		wantTo(t, u, mark, false)
	}
	u.Back()
	wantRecorded(t, "nil", u)
}

func TestAnUndoThatNewDidNotMake(t *testing.T) {
	var u undo.Undo
	for _, e := range []api.Effect{put("k", text("v"), 0), remove("k"), {}} {
		wantDo(t, &u, e, api.ErrArg)
	}
	wantTo(t, &u, 1, false)
	u.Back()
	wantRecorded(t, "without a Space", &u)
}

func TestASpaceThatNewDidNotMake(t *testing.T) {
	var s space.Space
	u := undo.New(&s)
	wantDone(t, u, remove("k"), put("k", text("v"), 5))
	wantAll(t, "12.1: Do", &s, put("k", text("v"), 5).Entry)
	u.Back()
	wantAll(t, "12.2: Back", &s)
}

func TestInvalidEffects(t *testing.T) {
	k := put("k", text("old"), 5)
	for what, e := range invalidEffects() {
		s := of(t, k)
		u := undo.New(s)
		wantDo(t, u, e, api.ErrArg)
		wantRecorded(t, what, u)
		wantDone(t, u, put("a", text("v"), 0))
		wantDo(t, u, e, api.ErrArg)
		wantRecorded(t, what, u, put("a", text("v"), 0))
		wantAll(t, "12.1: "+what, s, put("a", text("v"), 0).Entry, k.Entry)
		u.Back()
		wantAll(t, "12.2: "+what, s, k.Entry)
	}
}

// changes are what may be done to a key that may be there: each changes what k has,
// or leaves it so.
func changes() map[string]api.Effect {
	l := map[string]api.Effect{
		"removed":           remove("k"),
		"put again":         put("k", text("old"), 3),
		"another time":      put("k", text("old"), 4),
		"no time":           put("k", text("old"), 0),
		"the last time":     put("k", text("old"), api.MaxTime),
		"an empty string":   put("k", text(""), 3),
		"the longest text":  put("k", text(strings.Repeat("x", api.MaxText)), 3),
		"another key":       put("kk", text("old"), 3),
		"another removed":   remove("kk"),
		"the longest key":   put(strings.Repeat("k", api.MaxKey), text("v"), 3),
		"bytes of no text":  put("\xff\xc3(", text("\xff\x00"), 0),
		"removed in a list": {Entry: api.Entry{Key: "k", Value: api.Value{List: []string{}}}},
	}
	for _, v := range valuesOfAllKinds() {
		l["a "+value.Name(v.Kind)] = put("k", v, 3)
	}
	return l
}

func TestOneEffect(t *testing.T) {
	befores := [][]api.Effect{nil, {put("k", text("old"), 3)}, {put("a", text("a"), 0), put("k", text("old"), 0), put("z", text("z"), 1)}}
	for _, v := range valuesOfAllKinds() {
		befores = append(befores, []api.Effect{put("k", v, 9)}, []api.Effect{put("k", v, 0), put("kk", v, 1)})
	}
	for what, e := range changes() {
		for i, before := range befores {
			s := of(t, before...)
			memory := s.Memory()
			u := undo.New(s)
			wantDone(t, u, e)
			wantRecorded(t, what, u, e)
			got, ok := s.Has(e.Entry.Key)
			if puts := e.Entry.Value.Kind != api.KindNone; ok != puts || ok && !same(got, e.Entry) {
				t.Errorf("12.1: %s, %d: Do leaves %.100v, %v", what, i, got, ok)
			}
			u.Back()
			wantAll(t, fmt.Sprintf("12.2: %s, %d", what, i), s, entries(before...)...)
			wantRecorded(t, what+" and back", u)
			if s.Memory() != memory {
				t.Errorf("12.2: %s, %d: Memory is %d, was %d", what, i, s.Memory(), memory)
			}
		}
	}
}

// What had expired comes back as well: it is there until it is removed.
func TestExpiredKeys(t *testing.T) {
	before := []api.Effect{put("a", text("1"), 1), put("b", list("2"), 1)}
	s := of(t, before...)
	u := undo.New(s)
	wantDone(t, u, remove("a"), put("b", text("3"), 0))
	wantAll(t, "12.1: Do", s, put("b", text("3"), 0).Entry)
	u.Back()
	wantAll(t, "12.2: expired keys", s, entries(before...)...)
	if got := s.Ended(math.MaxInt64, 9); !slices.Equal(got, []string{"a", "b"}) {
		t.Errorf("12.2: expired keys: Ended: %q", got)
	}
}

// The last effect is reverted first: each finds what was there after the one before it.
func TestOneKeySeveralTimes(t *testing.T) {
	l := []api.Effect{put("k", text("1"), 0), put("k", list("2"), 7), remove("k"), remove("k"), put("k", text("3"), 1), put("k", text("3"), 2)}
	for mark := range len(l) + 1 {
		s := space.New()
		u := undo.New(s)
		wantDone(t, u, l[:mark]...)
		want := s.All()
		wantDone(t, u, l[mark:]...)
		wantRecorded(t, "one key", u, l...)
		wantTo(t, u, mark, true)
		wantAll(t, fmt.Sprintf("12.2: To(%d)", mark), s, want...)
		wantRecorded(t, fmt.Sprintf("To(%d)", mark), u, l[:mark]...)
	}
}

func TestTo(t *testing.T) {
	s := of(t, put("a", text("old"), 9))
	u := undo.New(s)
	l := []api.Effect{put("a", text("1"), 0), put("b", text("2"), 0), remove("a"), put("c", text("3"), 5)}
	wantDone(t, u, l...)
	for _, mark := range []int{5, 6, -1, -4, math.MaxInt, math.MinInt, 1 << 32} {
		wantTo(t, u, mark, false)
		wantRecorded(t, "a mark that is none", u, l...)
		wantAll(t, "12.1: a mark that is none", s, l[1].Entry, l[3].Entry)
	}
	wantTo(t, u, 4, true)
	wantRecorded(t, "To(4)", u, l...)
	wantAll(t, "12.1: To(4)", s, l[1].Entry, l[3].Entry)
	wantTo(t, u, 3, true)
	wantRecorded(t, "To(3)", u, l[:3]...)
	wantAll(t, "12.2: To(3)", s, l[1].Entry)
	wantTo(t, u, 4, false)
	wantTo(t, u, 1, true)
	wantRecorded(t, "To(1)", u, l[0])
	wantAll(t, "12.2: To(1)", s, l[0].Entry)
	wantDone(t, u, l[3])
	wantRecorded(t, "To(1) and Do", u, l[0], l[3])
	wantAll(t, "12.1: To(1) and Do", s, l[0].Entry, l[3].Entry)
	wantTo(t, u, 0, true)
	wantRecorded(t, "To(0)", u)
	wantAll(t, "12.2: To(0)", s, put("a", text("old"), 9).Entry)
	wantTo(t, u, 0, true)
	wantTo(t, u, 1, false)
	wantAll(t, "12.2: To(0) again", s, put("a", text("old"), 9).Entry)
}

// Back reverts what was recorded once only.
func TestBackTwice(t *testing.T) {
	s := of(t, put("k", text("old"), 9))
	u := undo.New(s)
	u.Back()
	wantDone(t, u, remove("k"))
	u.Back()
	s.Del("k")
	u.Back()
	wantAll(t, "12.1: Back twice", s)
	wantRecorded(t, "Back twice", u)
}

// With as many keys as there may be, a new one is refused; one that was removed for
// it comes back.
func TestMaxKeys(t *testing.T) {
	s := full(t)
	before := s.All()
	u := undo.New(s)
	wantDo(t, u, put("new", text("v"), 0), api.ErrLimit)
	wantDo(t, u, put("new", text("v"), -1), api.ErrArg)
	wantRecorded(t, "a key too many", u)
	wantAll(t, "12.1: a key too many", s, before...)
	l := []api.Effect{remove("17"), put("new", text("v"), 0), put("5", text("w"), 9), remove("5"), put("other", text("o"), 0), remove("new"), put("17", list("17"), 0)}
	wantDone(t, u, l...)
	wantDo(t, u, put("5", text("v"), 0), api.ErrLimit)
	wantRecorded(t, "keys for others", u, l...)
	u.Back()
	wantAll(t, "12.2: as many keys as there may be", s, before...)
}

// Two that revert changes of one Space do so for their own effects only.
func TestTwoUndosOfASpace(t *testing.T) {
	s := of(t, put("a", text("0"), 0))
	u, v := undo.New(s), undo.New(s)
	wantDone(t, u, put("a", text("1"), 0))
	wantDone(t, v, put("a", text("2"), 0), put("b", text("3"), 0))
	wantRecorded(t, "the first", u, put("a", text("1"), 0))
	wantRecorded(t, "the second", v, put("a", text("2"), 0), put("b", text("3"), 0))
	v.Back()
	wantAll(t, "12.2: the second", s, put("a", text("1"), 0).Entry)
	u.Back()
	wantAll(t, "12.2: the first", s, put("a", text("0"), 0).Entry)
}

// spoil changes all elements of a value.
func spoil(v api.Value) {
	for i := range v.List {
		v.List[i] = "spoilt"
	}
	for i := range v.Fields {
		v.Fields[i] = api.Field{Name: "spoilt", Text: "spoilt"}
	}
	for i := range v.Scores {
		v.Scores[i] = api.Score{Name: "spoilt", Score: 99}
	}
	for i := range v.Points {
		v.Points[i] = api.Point{Name: "spoilt", At: 99}
	}
}

func TestNothingIsShared(t *testing.T) {
	for _, v := range valuesOfAllKinds() {
		want := put("k", value.Clone(v), 5)
		s := of(t, want)
		e := put("k", v, 5)
		u := undo.New(s)
		wantDone(t, u, e, e)
		if !sameEffect(e, want) {
			t.Errorf("12.1: Do changes what it is given: %v", e)
		}
		spoil(e.Entry.Value)
		for _, got := range [][]api.Effect{u.Effects(), u.Effects()} {
			spoil(got[1].Entry.Value)
			if !sameEffect(got[0], want) {
				t.Errorf("12.1: the effects of one answer share memory: %v", got[0])
			}
			spoil(got[0].Entry.Value)
			got[0], got[1] = api.Effect{}, remove("x")
		}
		wantRecorded(t, "changed from outside", u, want, want)
		wantDone(t, u, remove("k"))
		u.Back()
		wantAll(t, "12.2: changed from outside", s, want.Entry)
	}
}

// The bytes of a key and of a text may change where they came from.
func TestTextsAreCopied(t *testing.T) {
	b := []byte("key text")
	key, v := unsafe.String(&b[0], 3), text(unsafe.String(&b[4], 4))
	s := space.New()
	u := undo.New(s)
	wantDone(t, u, put(key, v, 5), remove(key))
	copy(b, "xxx xxxx")
	wantRecorded(t, "texts changed from outside", u, put("key", text("text"), 5), remove("key"))
	wantTo(t, u, 1, true)
	wantAll(t, "12.2: texts changed from outside", s, put("key", text("text"), 5).Entry)
	u.Back()
	wantAll(t, "12.2: texts changed from outside", s)
}
