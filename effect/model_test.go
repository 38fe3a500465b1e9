package effect_test

import (
	"fmt"
	"maps"
	"slices"
	"testing"

	"scriptorium/api"
	"scriptorium/effect"
	"scriptorium/space"
)

// chance gives the same numbers each time.
type chance uint64

func newChance() *chance {
	c := chance(88172645463325252)
	return &c
}

func (c *chance) next() uint64 {
	*c ^= *c << 13
	*c ^= *c >> 7
	*c ^= *c << 17
	return uint64(*c)
}

func (c *chance) below(n int) int {
	return int(c.next() >> 20 % uint64(n))
}

// effect is of one of so many keys; about one in twenty is invalid.
func (c *chance) effect(keys int) api.Effect {
	key := fmt.Sprint("k", c.below(keys))
	switch c.below(20) {
	case 0:
		return put(key, text("v"), -1)
	case 1, 2, 3, 4, 5, 6, 7:
		return remove(key)
	}
	v := valuesOfAllKinds()[c.below(5)]
	if v.Kind == api.KindString {
		v.Text = fmt.Sprint(c.below(1000))
	}
	return put(key, v, int64(c.below(9)))
}

// model is the entries under their keys.
type model map[string]api.Entry

func modelOf(s *space.Space) model {
	m := model{}
	for _, e := range s.All() {
		m[e.Key] = e
	}
	return m
}

func (m model) apply(e api.Effect) int {
	_, ok := m[e.Entry.Key]
	switch {
	case e.Entry.Until < 0:
		return api.ErrArg
	case e.Entry.Value.Kind == api.KindNone:
		delete(m, e.Entry.Key)
	case !ok && len(m) == api.MaxKeys:
		return api.ErrLimit
	default:
		m[e.Entry.Key] = e.Entry
	}
	return api.OK
}

func (m model) all(l []api.Effect) int {
	for _, e := range l {
		if err := m.apply(e); err != api.OK {
			return err
		}
	}
	return api.OK
}

// entries are those of the model, rising by their keys.
func (m model) entries() []api.Entry {
	var l []api.Entry
	for _, key := range slices.Sorted(maps.Keys(m)) {
		l = append(l, m[key])
	}
	return l
}

func TestHistories(t *testing.T) {
	c := newChance()
	for keys := 1; keys <= 100; keys = keys*2 + 1 {
		s, m := space.New(), model{}
		for range 400 {
			e := c.effect(keys)
			wantApply(t, s, e, m.apply(e))
			wantAll(t, "11.2: a history", s, m.entries()...)
			var l []api.Effect
			for range c.below(6) {
				l = append(l, c.effect(keys))
			}
			wantAllOf(t, s, l, m.all(l))
			wantAll(t, "11.2: a history of several effects", s, m.entries()...)
		}
	}
}

func TestTwice(t *testing.T) {
	c := newChance()
	s := space.New()
	for range 5000 {
		e := c.effect(12)
		first := effect.Apply(s, e)
		once := s.All()
		if second := effect.Apply(s, e); second != first {
			t.Fatalf("11.3: Apply of %v: %d, and then %d", e, first, second)
		}
		wantAll(t, "11.3: an effect is applied twice", s, once...)
	}
	for what, e := range validEffects() {
		once, twice := of(t, put("k", text("old"), 3).Entry), of(t, put("k", text("old"), 3).Entry)
		wantApply(t, once, e, api.OK)
		wantAllOf(t, twice, []api.Effect{e, e}, api.OK)
		wantAll(t, "11.3: "+what, twice, once.All()...)
	}
}

// Where there are as many keys as may be, an effect that fails fails again, and one
// that is done is done again.
func TestTwiceWithMaxKeys(t *testing.T) {
	s := full(t)
	m := modelOf(s)
	for _, e := range []api.Effect{put("new", text("v"), 0), put("5", text("w"), 0), remove("6"), put("new", text("v"), 9), put("6", text("v"), 0), remove("none")} {
		want := m.apply(e)
		wantApply(t, s, e, want)
		once := s.All()
		wantApply(t, s, e, want)
		wantAll(t, "11.3: an effect is applied twice", s, once...)
		wantAll(t, "11.2: as many keys as may be", s, m.entries()...)
	}
}
