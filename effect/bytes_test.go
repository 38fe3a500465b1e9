package effect_test

import (
	"bytes"
	"encoding/binary"
	"encoding/hex"
	"slices"
	"strings"
	"testing"

	"scriptorium/api"
	"scriptorium/effect"
	"scriptorium/value"
)

// never is the time of what does not end.
const never = "0000000000000000"

// known are effects and their bytes, written by hand.
func known() map[string]api.Effect {
	const one = "00000001"
	all := valuesOfAllKinds()
	return map[string]api.Effect{
		never + one + "61":                                                                                         remove("a"),
		never + "00000003" + "6b0061":                                                                              remove("k\x00a"),
		never + one + "6b" + "01" + "00000000":                                                                     put("k", text(""), 0),
		"0000000000000005" + one + "6b" + "01" + one + "61":                                                        put("k", text("a"), 5),
		"0001020304050607" + "00000002" + "ff00" + "02" + one + "00000000":                                         put("\xff\x00", list(""), 0x0001020304050607),
		"0004000000000000" + one + "6b" + "01" + "00000003" + "616263":                                             put("k", all[0], api.MaxTime),
		never + one + "6b" + "02" + "00000003" + one + "61" + "00000000" + "00000002" + "6263":                     put("k", all[1], 0),
		never + one + "6b" + "03" + "00000002" + one + "66" + one + "31" + one + "67" + "00000000":                 put("k", all[2], 0),
		never + one + "6b" + "04" + "00000002" + one + "7a" + "ffffffffffffffff" + one + "61" + "0000000000000007": put("k", all[3], 0),
		never + one + "6b" + "05" + "00000002" + one + "70" + "0000000000000001" + "fffffffffffffffe" + one + "71" + never + "fffffffffffffffd": put("k", all[4], 0),
	}
}

// head is what stands in front of a value, whether it may be so or not.
func head(until uint64, length uint32, key string) []byte {
	b := binary.BigEndian.AppendUint64(nil, until)
	return append(binary.BigEndian.AppendUint32(b, length), key...)
}

// modelPut has the bytes of an effect whose value is valid or empty, put together by
// the document's words.
func modelPut(e api.Effect) []byte {
	b := head(uint64(e.Entry.Until), uint32(len(e.Entry.Key)), e.Entry.Key)
	if e.Entry.Value.Kind != api.KindNone {
		v, _ := value.Put(e.Entry.Value)
		b = append(b, v...)
	}
	return b
}

func wantGet(t *testing.T, b []byte, want api.Effect) {
	t.Helper()
	if got, err := effect.Get(b); err != api.OK || !sameEffect(got, want) {
		t.Fatalf("11.1: Get(%.100x): %.100v, %d, want %.100v", b, got, err, want)
	}
}

func wantBroken(t *testing.T, what string, b []byte) {
	t.Helper()
	if got, err := effect.Get(b); err != api.ErrBroken || !sameEffect(got, api.Effect{}) {
		t.Fatalf("11.1: Get of %s (%.100x): %.100v, %d", what, b, got, err)
	}
}

func TestKnownBytes(t *testing.T) {
	for want, e := range known() {
		b, err := effect.Put(e)
		if got := hex.EncodeToString(b); got != want || err != api.OK {
			t.Errorf("11.1: Put(%v): %s, %d, want %s", e, got, err, want)
		}
		b, _ = hex.DecodeString(want)
		wantGet(t, b, e)
	}
}

func TestGetOfPut(t *testing.T) {
	for what, e := range validEffects() {
		b, err := effect.Put(e)
		if err != api.OK || !bytes.Equal(b, modelPut(e)) {
			t.Fatalf("11.1: Put of %s: %.100x, %d, want %.100x", what, b, err, modelPut(e))
		}
		wantGet(t, b, e)
	}
}

func TestPutOfInvalidEffects(t *testing.T) {
	for what, e := range invalidEffects() {
		if b, err := effect.Put(e); len(b) != 0 || err != api.ErrArg {
			t.Errorf("11.1: Put of %s: %.100x, %d", what, b, err)
		}
	}
}

// All lengths of keys have their own bytes, up to the longest.
func TestKeysOfAllLengths(t *testing.T) {
	key := strings.Repeat("ab\x00\xff", api.MaxKey)
	for n := 1; n <= api.MaxKey; n++ {
		for _, e := range []api.Effect{remove(key[:n]), put(key[:n], text("v"), int64(n))} {
			b, err := effect.Put(e)
			if err != api.OK || !bytes.Equal(b, modelPut(e)) {
				t.Fatalf("11.1: Put of a key of %d bytes: %.100x, %d", n, b, err)
			}
			wantGet(t, b, e)
		}
	}
	for _, n := range []int{0, api.MaxKey + 1, api.MaxKey + 256, 1 << 10, 1 << 11} {
		wantBroken(t, "a removed key of a wrong length", modelPut(remove(key[:n])))
		wantBroken(t, "a key of a wrong length", modelPut(put(key[:n], text("v"), 5)))
	}
}

// A beginning of an effect's bytes is either none, or ends where a removed key would.
func TestGetOfCuts(t *testing.T) {
	for code, e := range known() {
		b, _ := hex.DecodeString(code)
		end := len(modelPut(remove(e.Entry.Key)))
		for n := range b {
			for _, cut := range [][]byte{b[:n], b[:n:n]} {
				if n == end && e.Entry.Until == 0 {
					wantGet(t, cut, remove(e.Entry.Key))
				} else {
					wantBroken(t, "a cut", cut)
				}
			}
		}
	}
	wantBroken(t, "nothing", nil)
	wantBroken(t, "no bytes", []byte{})
}

func TestGetOfTails(t *testing.T) {
	for code := range known() {
		b, _ := hex.DecodeString(code)
		for _, tail := range []string{"\x00", "a", "\xff", "\x00\x00\x00\x00", "\x00\x00\x00\x00\x00", string(b)} {
			wantBroken(t, "a tail", append(slices.Clone(b), tail...))
		}
		wantBroken(t, "a byte in front", append([]byte{0}, b...))
	}
}

func TestGetOfTimes(t *testing.T) {
	a, _ := value.Put(text("a"))
	for _, until := range []uint64{0, 1, 2, 255, 256, 1 << 31, 1 << 32, api.MaxTime - 1, api.MaxTime} {
		wantGet(t, append(head(until, 1, "k"), a...), put("k", text("a"), int64(until)))
	}
	for _, until := range []uint64{api.MaxTime + 1, 1 << 51, 1 << 62, 1<<63 - 1, 1 << 63, 1<<63 + 5, 1<<64 - 1, 1<<64 - api.MaxTime} {
		wantBroken(t, "a wrong time", append(head(until, 1, "k"), a...))
	}
	for _, until := range []uint64{1, 5, 256, 1 << 32, api.MaxTime, api.MaxTime + 1, 1 << 56, 1 << 63, 1<<64 - 1} {
		wantBroken(t, "a removed key with a time", head(until, 1, "k"))
	}
}

// A length may say more or less than there is.
func TestGetOfWrongLengths(t *testing.T) {
	a, _ := value.Put(text("a"))
	for _, length := range []uint32{0, 1, 2, 4, 5, 8, 9, 10, 255, 257, 1 << 16, 1<<16 + 3, 1 << 24, 1<<24 + 3, 1<<31 - 1, 1 << 31, 1<<31 + 3, 1<<32 - 12, 1<<32 - 1} {
		wantBroken(t, "a wrong length of a removed key", head(0, length, "key"))
		wantBroken(t, "a wrong length of a key", append(head(5, length, "key"), a...))
	}
	// So long a key takes all bytes of the value, which leaves one that is removed.
	wantGet(t, append(head(0, 9, "key"), a...), remove("key"+string(a)))
	wantBroken(t, "a key that takes the value, and has a time", append(head(5, 9, "key"), a...))
}

// Bytes that are written as those of effects are, but of invalid ones.
func TestGetOfInvalidBytes(t *testing.T) {
	tried := 0
	for what, e := range invalidEffects() {
		if v := e.Entry.Value; value.May(v) || value.Same(v, api.Value{}) {
			wantBroken(t, what, modelPut(e))
			tried++
		}
	}
	if tried < 15 {
		t.Errorf("11.1: only %d invalid effects are tried", tried)
	}
}

// What stands behind a key is none of the values of chapter 9.
func TestGetOfWrongValues(t *testing.T) {
	for kind := range 256 {
		wantBroken(t, "a kind alone", append(head(0, 1, "k"), byte(kind)))
		wantBroken(t, "a kind that has too few bytes", append(head(0, 1, "k"), byte(kind), 0, 0, 0))
		if kind != api.KindString {
			wantBroken(t, "a kind without elements", append(head(5, 1, "k"), byte(kind), 0, 0, 0, 0))
			wantBroken(t, "a value of another kind", append(head(5, 1, "k"), byte(kind), 0, 0, 0, 1, 'a'))
		}
	}
	for _, code := range []string{
		"01" + "00000002" + "61", "01" + "00000001" + "6161", "01" + "00001001" + strings.Repeat("61", api.MaxText+1),
		"02" + "00000001" + "00000002" + "61", "02" + "00000002" + "00000001" + "61",
		"03" + "00000002" + "00000001" + "62" + "00000000" + "00000001" + "61" + "00000000",
		"04" + "00000001" + "00000001" + "61" + "00000000000000",
		"05" + "00000001" + "00000001" + "61" + "0000000000100001" + never,
	} {
		v, _ := hex.DecodeString(code)
		wantBroken(t, "a wrong value", append(head(0, 1, "k"), v...))
		wantBroken(t, "a wrong value with a time", append(head(5, 1, "k"), v...))
	}
}

// modelGet tells what bytes are an effect's, by the document's words.
func modelGet(b []byte) (api.Effect, bool) {
	if len(b) < 12 {
		return api.Effect{}, false
	}
	until, length, rest := binary.BigEndian.Uint64(b), uint64(binary.BigEndian.Uint32(b[8:])), b[12:]
	if length < 1 || length > api.MaxKey || length > uint64(len(rest)) || until > api.MaxTime {
		return api.Effect{}, false
	}
	key := string(rest[:length])
	if uint64(len(rest)) == length {
		return remove(key), until == 0
	}
	v, err := value.Get(rest[length:])
	return put(key, v, int64(until)), err == api.OK
}

func wantModelGet(t *testing.T, b []byte) {
	t.Helper()
	if e, ok := modelGet(b); ok {
		wantGet(t, b, e)
		if again, err := effect.Put(e); err != api.OK || !bytes.Equal(again, b) {
			t.Fatalf("11.1: Put of Get of %.100x: %.100x, %d", b, again, err)
		}
	} else {
		wantBroken(t, "damaged bytes", b)
	}
}

func TestGetOfEveryTurnedByte(t *testing.T) {
	for code := range known() {
		b, _ := hex.DecodeString(code)
		for i, was := range b {
			for other := range 256 {
				b[i] = byte(other)
				wantModelGet(t, b)
			}
			b[i] = was
		}
	}
}

func TestGetOfDamagedBytes(t *testing.T) {
	c := newChance()
	for code := range known() {
		whole, _ := hex.DecodeString(code)
		for range 3000 {
			b := slices.Clone(whole)
			for range c.below(3) + 1 {
				i := c.below(len(b))
				switch c.below(4) {
				case 0:
					b[i] = byte(c.below(256))
				case 1:
					b[i] ^= 1 << c.below(8)
				case 2:
					b = slices.Insert(b, i, byte(c.below(3)))
				case 3:
					if len(b) > 1 {
						b = slices.Delete(b, i, i+1)
					}
				}
			}
			wantModelGet(t, b)
		}
	}
}

// Two effects that differ have different bytes.
func TestBytesTellEffectsApart(t *testing.T) {
	of := map[string]api.Effect{}
	for _, key := range []string{"a", "b", "aa", "a\x00", "a\x01\x00\x00\x00\x00"} {
		for _, e := range []api.Effect{remove(key), put(key, text(""), 0), put(key, text("a"), 0), put(key, text("a"), 1), put(key, list("a"), 0)} {
			b, err := effect.Put(e)
			if other, ok := of[string(b)]; ok || err != api.OK {
				t.Errorf("11.1: Put of %v and of %v: %x, %d", e, other, b, err)
			}
			of[string(b)] = e
		}
	}
}

// Neither keeps what it was given, and what they return is the caller's.
func TestBytesAreNotShared(t *testing.T) {
	for code, want := range known() {
		b, _ := hex.DecodeString(code)
		e, err := effect.Get(b)
		if hex.EncodeToString(b) != code || err != api.OK {
			t.Fatalf("11.1: Get changed its bytes to %x", b)
		}
		clear(b)
		if !sameEffect(e, want) {
			t.Errorf("11.1: Get kept its bytes: %v, want %v", e, want)
		}
		first, _ := effect.Put(want)
		clear(first[:cap(first)])
		second, _ := effect.Put(want)
		if hex.EncodeToString(second) != code {
			t.Errorf("11.1: Put again: %x, want %s", second, code)
		}
	}
}
