package effect

import (
	"scriptorium/api"
	"scriptorium/value"
)

// In front of a key stand the time until which its entry exists, and the length of
// the key.
const (
	untilSize  = 8
	lengthSize = 4
	headSize   = untilSize + lengthSize
)

// Put returns the bytes of a valid effect.
func Put(e api.Effect) ([]byte, int) {
	var b, v []byte
	err := api.ErrArg
	if !May(e) {
		goto exit
	}
	err = api.OK
	if !removes(e) {
		v, err = value.Put(e.Entry.Value)
		if err != api.OK {
			goto exit
		}
	}
	b = appendNumber(b, uint64(e.Entry.Until), untilSize)
	b = appendNumber(b, uint64(len(e.Entry.Key)), lengthSize)
	b = append(b, e.Entry.Key...)
	b = append(b, v...)
exit:
	return b, err
}

// Get returns the effect of bytes that Put made.
func Get(b []byte) (api.Effect, int) {
	var e api.Effect
	var end uint64
	err := api.OK
	if len(b) < headSize {
		goto broken
	}
	end = headSize + number(b[untilSize:headSize])
	if end > uint64(len(b)) {
		goto broken
	}
	e.Entry.Until = int64(number(b[:untilSize]))
	e.Entry.Key = string(b[headSize:end])
	// Behind a key that is removed stands nothing, and every value has bytes.
	if end < uint64(len(b)) {
		e.Entry.Value, err = value.Get(b[end:])
	}
	if err != api.OK || !May(e) {
		goto broken
	}
	return e, api.OK
broken:
	return api.Effect{}, api.ErrBroken
}

// appendNumber appends the lowest bytes of n, most significant byte first.
func appendNumber(b []byte, n uint64, size int) []byte {
	for i := range size {
		b = append(b, byte(n>>(8*(size-1-i))))
	}
	return b
}

// number reads what appendNumber appended.
func number(b []byte) uint64 {
	var n uint64
	for _, next := range b {
		n = n<<8 | uint64(next)
	}
	return n
}
