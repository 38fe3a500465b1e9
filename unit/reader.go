package unit

import (
	"bytes"

	"scriptorium/api"
	"scriptorium/effect"
)

// reader puts units together from the bodies of their records.
type reader struct {
	units [][]api.Effect
	size  int // of the units, in bytes

	// The unit that has begun and has not ended yet: how many effects it is to have (0 if
	// no unit has begun), those that have come, and the bytes of its records so far.
	count   int
	effects []api.Effect
	begun   int
}

// take takes the next body. It reports false for a body that no unit has in this
// place; no more units follow then.
func (r *reader) take(body []byte) bool {
	if len(body) == 0 || body[0] != r.letter() || !r.read(body) {
		return false
	}
	r.begun += headSize + len(body)
	if body[0] == letterCommit {
		r.end()
	}
	return true
}

// letter returns the letter of the body that must come next.
func (r *reader) letter() byte {
	switch {
	case r.count == 0:
		return letterBegin
	case len(r.effects) < r.count:
		return letterEffect
	}
	return letterCommit
}

// read reads a body that has the right letter, and reports whether the rest is right.
func (r *reader) read(body []byte) bool {
	switch body[0] {
	case letterBegin:
		r.count = number(body[1:])
		fallthrough
	case letterCommit:
		// What begins a unit and what ends it have the same number, and nothing behind it.
		return isCount(r.count) && bytes.Equal(body, counted(body[0], r.count))
	}
	e, err := effect.Get(body[1:])
	r.effects = append(r.effects, e)
	return err == api.OK
}

// number reads a number, most significant byte first.
func number(b []byte) int {
	var n uint32
	for _, next := range b {
		n = n<<8 | uint32(next)
	}
	return int(n)
}

// end adds the unit that had begun to the complete ones.
func (r *reader) end() {
	r.units = append(r.units, r.effects)
	r.size += r.begun
	r.count, r.effects, r.begun = 0, nil, 0
}
