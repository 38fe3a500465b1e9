package undo_test

import (
	"fmt"
	"maps"
	"slices"
	"testing"

	"scriptorium/api"
	"scriptorium/space"
	"scriptorium/undo"
)

// chance gives the same numbers each time.
type chance uint64

func newChance() *chance {
	c := chance(88172645463325252)
	return &c
}

func (c *chance) next() uint64 {
	*c ^= *c << 13
	*c ^= *c >> 7
	*c ^= *c << 17
	return uint64(*c)
}

func (c *chance) below(n int) int {
	return int(c.next() >> 20 % uint64(n))
}

// effect is of one of so many keys; about one in twenty is invalid.
func (c *chance) effect(keys int) api.Effect {
	key := fmt.Sprint("k", c.below(keys))
	switch c.below(20) {
	case 0:
		return put(key, text("v"), -1)
	case 1, 2, 3, 4, 5, 6, 7:
		return remove(key)
	}
	v := valuesOfAllKinds()[c.below(5)]
	if v.Kind == api.KindString {
		v.Text = fmt.Sprint(c.below(1000))
	}
	return put(key, v, int64(c.below(9)))
}

// model is the entries under their keys, after each of the recorded effects.
type model struct {
	effects []api.Effect
	states  []map[string]api.Entry
}

func newModel() *model {
	return &model{states: []map[string]api.Entry{{}}}
}

func (m *model) now() map[string]api.Entry { return m.states[len(m.states)-1] }

func (m *model) do(e api.Effect) int {
	if e.Entry.Until < 0 {
		return api.ErrArg
	}
	next := maps.Clone(m.now())
	if e.Entry.Value.Kind == api.KindNone {
		delete(next, e.Entry.Key)
	} else {
		next[e.Entry.Key] = e.Entry
	}
	m.effects, m.states = append(m.effects, e), append(m.states, next)
	return api.OK
}

func (m *model) to(mark int) bool {
	if mark < 0 || mark > len(m.effects) {
		return false
	}
	m.effects, m.states = m.effects[:mark], m.states[:mark+1]
	return true
}

// entries are those that are there now, rising by their keys.
func (m *model) entries() []api.Entry {
	var l []api.Entry
	for _, key := range slices.Sorted(maps.Keys(m.now())) {
		l = append(l, m.now()[key])
	}
	return l
}

func (m *model) want(t *testing.T, what string, s *space.Space, u *undo.Undo) {
	t.Helper()
	wantAll(t, "12.2: "+what, s, m.entries()...)
	wantRecorded(t, what, u, m.effects...)
}

func TestHistories(t *testing.T) {
	c := newChance()
	for keys := 1; keys <= 100; keys = keys*2 + 1 {
		s, m := space.New(), newModel()
		u := undo.New(s)
		for range 600 {
			for range c.below(12) {
				e := c.effect(keys)
				wantDo(t, u, e, m.do(e))
			}
			m.want(t, "a history", s, u)
			switch c.below(6) {
			case 0:
				mark := c.below(len(m.effects)+4) - 2
				wantTo(t, u, mark, m.to(mark))
			case 1:
				mark := len(m.effects) - c.below(4)
				wantTo(t, u, mark, m.to(mark))
			case 2:
				if c.below(5) == 0 {
					u.Back()
					m.to(0)
				}
			}
			m.want(t, "a history with ways back", s, u)
		}
	}
}

// Each mark of a long history is found again, from the last to the first.
func TestEveryMark(t *testing.T) {
	c := newChance()
	s, m := space.New(), newModel()
	u := undo.New(s)
	for len(m.effects) < 1000 {
		e := c.effect(40)
		wantDo(t, u, e, m.do(e))
	}
	for mark := 999; mark >= 0; mark-- {
		m.to(mark)
		wantTo(t, u, mark, true)
		wantAll(t, fmt.Sprintf("12.2: To(%d)", mark), s, m.entries()...)
		if u.Mark() != mark {
			t.Fatalf("12.1: Mark after To(%d): %d", mark, u.Mark())
		}
	}
}
