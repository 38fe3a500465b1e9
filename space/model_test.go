package space_test

import (
	"cmp"
	"fmt"
	"slices"
	"testing"

	"scriptorium/api"
	"scriptorium/space"
	"scriptorium/value"
)

// chance gives the same numbers each time.
type chance uint64

func (c *chance) next() uint64 {
	*c ^= *c << 13
	*c ^= *c >> 7
	*c ^= *c << 17
	return uint64(*c)
}

func (c *chance) below(n int) int {
	return int(c.next() >> 20 % uint64(n))
}

// model is a plain list of entries, in no order.
type model []api.Entry

func (m *model) find(key string) int {
	return slices.IndexFunc(*m, func(e api.Entry) bool { return e.Key == key })
}

func (m *model) put(e api.Entry) {
	m.del(e.Key)
	*m = append(*m, e)
}

func (m *model) del(key string) bool {
	i := m.find(key)
	if i < 0 {
		return false
	}
	*m = slices.Delete(*m, i, i+1)
	return true
}

// sorted has those entries that are asked for, in the order that is asked for.
func (m *model) sorted(isIn func(api.Entry) bool, compare func(a, b api.Entry) int) []api.Entry {
	var l []api.Entry
	for _, e := range *m {
		if isIn(e) {
			l = append(l, e)
		}
	}
	slices.SortFunc(l, compare)
	return l
}

func (m *model) memory() int {
	sum := 0
	for _, e := range *m {
		sum += 32 + len(e.Key) + value.Size(e.Value)
	}
	return sum
}

func keysOf(l []api.Entry) []string {
	var keys []string
	for _, e := range l {
		keys = append(keys, e.Key)
	}
	return keys
}

func byKey(a, b api.Entry) int { return cmp.Compare(a.Key, b.Key) }

func byEnd(a, b api.Entry) int {
	if a.Until != b.Until {
		return cmp.Compare(a.Until, b.Until)
	}
	return byKey(a, b)
}

// history is a Space beside a model that gets the same calls.
type history struct {
	t *testing.T
	c *chance
	s *space.Space
	m model
}

func (h *history) key(keys int) string {
	return fmt.Sprint(h.c.below(keys))
}

func (h *history) put(keys int) {
	e := api.Entry{Key: h.key(keys), Value: valuesOfAllKinds()[h.c.below(5)], Until: int64(h.c.below(12))}
	if e.Value.Kind == api.KindString {
		e.Value.Text = fmt.Sprint(h.c.next() >> h.c.below(60))
	}
	if err := h.s.Put(e); err != api.OK {
		h.t.Fatalf("10.2: Put of %q: %d", e.Key, err)
	}
	h.m.put(e)
}

func (h *history) del(keys int) {
	key := h.key(keys)
	if got, want := h.s.Del(key), h.m.del(key); got != want {
		h.t.Fatalf("10.1: Del(%q): %v", key, got)
	}
}

func (h *history) hold(key string, now int64) {
	i := h.m.find(key)
	if e, ok := h.s.Has(key); ok != (i >= 0) || ok && !same(e, h.m[i]) {
		h.t.Fatalf("10.2: Has(%q): %v %v", key, e, ok)
	}
	isThere := i >= 0 && (h.m[i].Until == 0 || h.m[i].Until > now)
	if e, ok := h.s.Get(key, now); ok != isThere || ok && !same(e, h.m[i]) || !ok && !isZero(e) {
		h.t.Fatalf("10.2: Get(%q, %d): %v %v", key, now, e, ok)
	}
}

func (h *history) holdAll(now int64) {
	isOver := func(e api.Entry) bool { return e.Until != 0 && e.Until <= now }
	isNotOver := func(e api.Entry) bool { return !isOver(e) }
	if got, want := h.s.Keys(now), keysOf(h.m.sorted(isNotOver, byKey)); !slices.Equal(got, want) {
		h.t.Fatalf("10.1: Keys(%d): %q, not %q", now, got, want)
	}
	all := h.m.sorted(func(api.Entry) bool { return true }, byKey)
	if got := h.s.All(); !slices.EqualFunc(got, all, same) {
		h.t.Fatalf("10.1: All: %v, not %v", got, all)
	}
	ended := keysOf(h.m.sorted(isOver, byEnd))
	n := h.c.below(len(ended) + 3)
	if got := h.s.Ended(now, n); !slices.Equal(got, ended[:min(n, len(ended))]) {
		h.t.Fatalf("10.1: Ended(%d, %d): %q of %q", now, n, got, ended)
	}
	if got, want := h.s.Memory(), h.m.memory(); got != want {
		h.t.Fatalf("10.1: Memory: %d, not %d", got, want)
	}
}

func TestHistories(t *testing.T) {
	for keys := 1; keys <= 200; keys = keys*3/2 + 1 {
		c := chance(88172645463325252 + uint64(keys))
		h := &history{t: t, c: &c, s: space.New()}
		for step := range 1500 {
			// There are times in which more is put, and times in which more is removed.
			if c.below(4) > step/100%4 {
				h.put(keys)
			} else {
				h.del(keys)
			}
			now := int64(c.below(14) - 1)
			h.hold(h.key(keys), now)
			if step%7 == 0 {
				h.holdAll(now)
			}
		}
	}
}
