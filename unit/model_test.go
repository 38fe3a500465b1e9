package unit_test

import (
	"bytes"
	"encoding/binary"
	"fmt"
	"slices"
	"testing"

	"scriptorium/api"
	"scriptorium/disk"
	"scriptorium/effect"
	"scriptorium/space"
	"scriptorium/unit"
	"scriptorium/value"
)

// chance gives the same numbers each time.
type chance uint64

func newChance() *chance {
	c := chance(88172645463325252)
	return &c
}

func (c *chance) next() uint64 {
	*c ^= *c << 13
	*c ^= *c >> 7
	*c ^= *c << 17
	return uint64(*c)
}

func (c *chance) below(n int) int {
	return int(c.next() >> 20 % uint64(n))
}

func (c *chance) bytes(count int) []byte {
	b := make([]byte, count)
	for i := range b {
		b[i] = byte(c.next() >> 20)
	}
	return b
}

// effects are up to so many, at least one, of a few keys.
func (c *chance) effects(bound int) []api.Effect {
	var l []api.Effect
	for range c.below(bound) + 1 {
		e := someEffects()[c.below(len(someEffects()))]
		e.Entry.Key = fmt.Sprint("k", c.below(9))
		l = append(l, e)
	}
	return l
}

func (c *chance) units(bound int) [][]api.Effect {
	var units [][]api.Effect
	for range c.below(bound + 1) {
		units = append(units, c.effects(4))
	}
	return units
}

// modelUnit is the unit at the beginning of b in the document's own words: is it what
// Write returns for the effects that stand there?
func modelUnit(b []byte) ([]api.Effect, bool) {
	const head = 8
	if len(b) < head+5 {
		return nil, false
	}
	count := binary.BigEndian.Uint32(b[head+1:])
	if count < 1 || count > most {
		return nil, false
	}
	var l []api.Effect
	rest := b[head+5:]
	for range count {
		if len(rest) < head+1 {
			return nil, false
		}
		length := int64(binary.BigEndian.Uint32(rest))
		if length < 1 || length > int64(len(rest)-head) {
			return nil, false
		}
		e, err := effect.Get(rest[head+1 : head+length])
		if err != api.OK {
			return nil, false
		}
		l = append(l, e)
		rest = rest[head+length:]
	}
	return l, bytes.HasPrefix(b, model(l...))
}

func modelRead(b []byte) [][]api.Effect {
	var units [][]api.Effect
	for {
		l, ok := modelUnit(b)
		if !ok {
			return units
		}
		units = append(units, l)
		b = b[len(model(l...)):]
	}
}

// damaged returns a piece of memory of its own, with some bytes changed, inserted, taken away, or cut off at the end.
func damaged(c *chance, b []byte) []byte {
	b = bytes.Clone(b)
	for range c.below(3) {
		at := c.below(len(b) + 1)
		to := min(at+c.below(20), len(b))
		switch c.below(4) {
		case 0:
			copy(b[at:to], c.bytes(to-at))
		case 1:
			b = slices.Insert(b, at, c.bytes(c.below(20))...)
		case 2:
			b = slices.Delete(b, at, to)
		case 3:
			b = b[:at]
		}
	}
	return b
}

func TestDamagedBytes(t *testing.T) {
	c := newChance()
	for range 3000 {
		b := damaged(c, sequence(c.units(5)...))
		want := modelRead(b)
		wantRead(t, "13.2: damaged bytes", b, want...)
		n := len(sequence(want...))
		wantRead(t, "13.3: what Read took", b[:n], want...)
		wantRead(t, "13.2: what Read left", b[n:])
	}
}

// shuffled returns bodies of which some are others, twice there, away, or in other places.
func shuffled(c *chance, l []string) []string {
	for range c.below(3) {
		if len(l) == 0 {
			return l
		}
		at, other := c.below(len(l)), c.below(len(l))
		switch c.below(5) {
		case 0:
			l[at] = l[other]
		case 1:
			l = slices.Insert(l, at, l[other])
		case 2:
			l = slices.Delete(l, at, at+1)
		case 3:
			l[at], l[other] = l[other], l[at]
		case 4:
			b := []byte(l[at])
			b[c.below(len(b))] ^= byte(1 << c.below(8))
			l[at] = string(b)
		}
	}
	return l
}

// All checksums of the records are right, whatever the bodies say.
func TestShuffledBodies(t *testing.T) {
	c := newChance()
	right, all := 0, 0
	for range 6000 {
		var l []string
		for _, u := range c.units(4) {
			l = append(l, bodies(u...)...)
		}
		b := sealed(shuffled(c, l)...)
		want := modelRead(b)
		wantRead(t, "13.2: shuffled bodies", b, want...)
		if all++; len(sequence(want...)) == len(b) {
			right++
		}
	}
	if right < 100 || all-right < 100 {
		t.Errorf("13.2: of %d shuffled sequences %d are units", all, right)
	}
}

func TestRandomUnits(t *testing.T) {
	c := newChance()
	for range 300 {
		units := c.units(12)
		var whole []byte
		for _, l := range units {
			wantWrite(t, "a random unit", l...)
			b, _ := unit.Write(l)
			whole = append(whole, b...)
		}
		wantRead(t, "13.2: random units", whole, units...)
		cut := whole[:c.below(len(whole)+1)]
		wantRead(t, "13.3: a beginning of random units", cut, modelRead(cut)...)
	}
}

// states are the entries after each number of first units.
func states(units [][]api.Effect) [][]api.Entry {
	s := space.New()
	all := [][]api.Entry{s.All()}
	for _, l := range units {
		effect.All(s, l)
		all = append(all, s.All())
	}
	return all
}

func sameEntry(a, b api.Entry) bool {
	return a.Key == b.Key && a.Until == b.Until && value.Same(a.Value, b.Value)
}

// Wherever a crash happens, and whatever remains of what was not synced: what is read
// are first units, and among them all that were synced.
func TestCrashes(t *testing.T) {
	c := newChance()
	units := someUnits()
	after := states(units)
	for synced := range len(units) + 1 {
		for keep := -1; keep <= len(sequence(units[synced:]...)); keep += 1 + c.below(9) {
			d, _ := disk.New(api.MaxDisk)
			d.Append("log", sequence(units[:synced]...))
			d.Sync("log")
			for _, l := range units[synced:] {
				b, _ := unit.Write(l)
				d.Append("log", b)
			}
			garbled := c.below(2) == 0
			d.Crash(keep, garbled)
			d.Start()
			b, _ := d.Read("log")
			wantCrashed(t, b, units, synced, garbled)
			s := space.New()
			got, _ := unit.Read(b)
			for _, l := range got {
				effect.All(s, l)
			}
			if !slices.EqualFunc(s.All(), after[len(got)], sameEntry) {
				t.Fatalf("T2: after %d units: %v, want %v", len(got), s.All(), after[len(got)])
			}
		}
	}
}

// wantCrashed holds what remains after a crash against all units, of which so many were synced.
func wantCrashed(t *testing.T, b []byte, units [][]api.Effect, synced int, garbled bool) {
	t.Helper()
	got, _ := unit.Read(b)
	if len(got) < synced {
		t.Fatalf("T2: %d units after a crash, %d were synced", len(got), synced)
	}
	wantRead(t, "T2: after a crash", b, units[:len(got)]...)
	next := len(sequence(units[:min(len(got)+1, len(units))]...))
	if !garbled && len(got) < len(units) && len(b) >= next {
		t.Fatalf("T2: unit %d is complete, and is not read", len(got))
	}
}
