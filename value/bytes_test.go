package value_test

import (
	"encoding/hex"
	"fmt"
	"math"
	"slices"
	"strings"
	"testing"

	"scriptorium/api"
	"scriptorium/value"
)

func wantGet(t *testing.T, b []byte, want api.Value) {
	t.Helper()
	if got, err := value.Get(b); err != api.OK || !value.Same(got, want) {
		t.Fatalf("9.2: Get(%.100x): %s, %d, want %s", b, show(got), err, show(want))
	}
}

func wantBroken(t *testing.T, what string, b []byte) {
	t.Helper()
	if got, err := value.Get(b); err != api.ErrBroken || !isZero(got) {
		t.Fatalf("9.2: Get of %s (%.100x): %s, %d", what, b, show(got), err)
	}
}

// known are values and their bytes, written by hand.
func known() map[string]api.Value {
	const (
		three  = "00000003" + "616263"
		minus  = "ffffffffffffffff"
		corner = "ffffffffffff0000"
	)
	return map[string]api.Value{
		"01" + "00000000":                                                                text(""),
		"01" + "00000001" + "61":                                                         text("a"),
		"01" + "00000002" + "ff00":                                                       text("\xff\x00"),
		"02" + "00000001" + "00000000":                                                   list(""),
		"02" + "00000002" + three + "00000000":                                           list("abc", ""),
		"03" + "00000001" + "00000001" + "61" + three:                                    hash("a", "abc"),
		"03" + "00000002" + "00000000" + three + three + "00000000":                      hash("", "abc", "abc", ""),
		"04" + "00000001" + three + "0000000000000001":                                   scores(score("abc", 1)),
		"04" + "00000002" + "00000001" + "62" + minus + three + "0102030405060708":       scores(score("b", -1), score("abc", 0x0102030405060708)),
		"04" + "00000002" + "00000000" + "8000000000000000" + three + "7fffffffffffffff": scores(score("", math.MinInt64), score("abc", math.MaxInt64)),
		"05" + "00000001" + three + "0000000000000001" + minus:                           points(point("abc", 1-1i)),
		"05" + "00000002" + "00000000" + "0000000000000000" + "0000000000010000" + three + corner + "0000000000100000": points(point("", 65536i), point("abc", -65536+most*1i)),
		"05" + "00000001" + "00000001" + "7a" + "fffffffffff00000" + "fffffffffff00000":                                points(point("z", -most-most*1i)),
	}
}

func TestKnownBytes(t *testing.T) {
	for want, v := range known() {
		b, err := value.Put(v)
		if got := hex.EncodeToString(b); got != want || err != api.OK {
			t.Errorf("9.2: Put(%s): %s, %d, want %s", show(v), got, err, want)
		}
		b, _ = hex.DecodeString(want)
		wantGet(t, b, v)
	}
}

func TestPutOfInvalidValues(t *testing.T) {
	for what, v := range invalidValues() {
		if b, err := value.Put(v); b != nil || err != api.ErrArg {
			t.Errorf("9.2: Put of %s: %x, %d", what, b, err)
		}
	}
	for _, v := range mixedValues() {
		if b, err := value.Put(v); b != nil || err != api.ErrArg {
			t.Errorf("9.2: Put(%s): %x, %d", show(v), b, err)
		}
	}
}

func TestGetOfPut(t *testing.T) {
	for _, v := range validValues() {
		b, err := value.Put(v)
		if err != api.OK || !slices.Equal(b, modelPut(v)) {
			t.Fatalf("9.2: Put(%s): %.100x, %d", show(v), b, err)
		}
		got, err := value.Get(b)
		if err != api.OK || !value.Same(got, v) {
			t.Fatalf("9.3: Get(Put(%s)): %s, %d", show(v), show(got), err)
		}
		again, err := value.Put(got)
		if err != api.OK || !slices.Equal(again, b) {
			t.Fatalf("9.3: Put(Get(%.100x)): %.100x, %d", b, again, err)
		}
	}
}

// No beginning of a value's bytes is a value, and nothing may stand behind them.
func TestGetOfCutsAndTails(t *testing.T) {
	wantBroken(t, "nothing", nil)
	wantBroken(t, "no bytes", []byte{})
	for code := range known() {
		b, _ := hex.DecodeString(code)
		for n := range b {
			wantBroken(t, "a cut", b[:n:n])
			wantBroken(t, "a cut with room", b[:n])
		}
		for _, tail := range []string{"\x00", "a", "\xff", "\x00\x00\x00\x00", string(b)} {
			wantBroken(t, "a tail", append(slices.Clone(b), tail...))
		}
		wantBroken(t, "a byte in front", append([]byte{b[0]}, b...))
	}
}

func TestGetOfEachFirstByte(t *testing.T) {
	for code := range known() {
		b, _ := hex.DecodeString(code)
		for kind := range 256 {
			b[0] = byte(kind)
			if want, ok := modelGet(b); ok {
				wantGet(t, b, want)
			} else {
				wantBroken(t, "another kind", b)
			}
		}
	}
}

func TestGetOfWrongCounts(t *testing.T) {
	for code := range known() {
		for _, count := range []string{"00000000", "000003e8", "000003e9", "00001000", "00001001", "00010001", "01000001", "7fffffff", "80000000", "80000001", "ffffffff"} {
			if code[2:10] == count {
				continue
			}
			b, _ := hex.DecodeString(code[:2] + count + code[10:])
			wantBroken(t, "a wrong count", b)
		}
	}
	for kind := range 256 {
		wantBroken(t, "a kind alone", []byte{byte(kind)})
		wantBroken(t, "a great count alone", []byte{byte(kind), 0xFF, 0xFF, 0xFF, 0xFF})
		if kind != api.KindString {
			wantBroken(t, "no elements", []byte{byte(kind), 0, 0, 0, 0})
		}
	}
}

// All lengths of strings may be wrong, also those behind the first one.
func TestGetOfWrongLengths(t *testing.T) {
	const one = "0000000000000001"
	for _, code := range []string{
		"02" + "00000001" + "ffffffff", "02" + "00000001" + "00000001", "02" + "00000002" + "00000001" + "61" + "00000002" + "61", "02" + "00000001" + "80000000" + "61",
		"03" + "00000001" + "00000001" + "61" + "00000002" + "61", "03" + "00000001" + "00000002" + "61" + "00000001" + "61", "03" + "00000001" + "ffffffff" + "00000001" + "61",
		"04" + "00000001" + "00000002" + "61" + one, "04" + "00000001" + "00000009" + "61" + one, "04" + "00000001" + "7fffffff" + "61" + one,
		"05" + "00000001" + "00000002" + "61" + one + one, "05" + "00000001" + "00000011" + "61" + one + one, "05" + "00000001" + "fffffff8" + "61" + one + one,
	} {
		b, _ := hex.DecodeString(code)
		wantBroken(t, "a wrong length", b)
	}
}

// Bytes that are written as those of values are, but of invalid ones.
func TestGetOfInvalidBytes(t *testing.T) {
	tried := 0
	for what, v := range invalidValues() {
		// There are no such bytes for what is no point, for other kinds, and for a field that does not belong to the Kind.
		hasFaultyPlace := strings.HasPrefix(what, "real") || strings.HasPrefix(what, "imaginary")
		if hasFaultyPlace || v.Kind < 1 || v.Kind > 5 || strings.HasPrefix(what, "all fields") || strings.HasSuffix(what, "only") {
			continue
		}
		wantBroken(t, what, modelPut(v))
		tried++
	}
	if tried < 40 {
		t.Errorf("9.2: only %d invalid values are tried", tried)
	}
}

func TestGetOfNoPoints(t *testing.T) {
	for _, part := range []int64{most + 1, -most - 1, 2 * most, 1 << 31, 1 << 32, -1 << 32, 1<<32 + 1, 1 << 52, 1<<53 + 1, -1<<53 - 1, 1 << 62, math.MaxInt64, math.MinInt64, math.MinInt64 + 1} {
		number := fmt.Sprintf("%016x", uint64(part))
		for _, good := range []string{"0000000000000000", "0000000000100000", "fffffffffff00000", number} {
			for _, parts := range []string{number + good, good + number} {
				b, _ := hex.DecodeString("0500000001" + "0000000161" + parts)
				wantBroken(t, "no point", b)
			}
		}
	}
	for _, part := range []int64{most, -most, most - 1, -most + 1, 0, 1, -1} {
		number := fmt.Sprintf("%016x", uint64(part))
		b, _ := hex.DecodeString("0500000001" + "0000000161" + number + number)
		wantGet(t, b, points(point("a", complex(float64(part), float64(part)))))
	}
	v, _ := value.Get([]byte("\x05\x00\x00\x00\x01\x00\x00\x00\x01a" + strings.Repeat("\x00", 16)))
	if at := v.Points[0].At; math.Signbit(real(at)) || math.Signbit(imag(at)) {
		t.Errorf("9.2: Get of the point 0: %v", at)
	}
}

// Neither keeps what it was given, and what they return is the caller's.
func TestBytesAreNotShared(t *testing.T) {
	for code, want := range known() {
		b, _ := hex.DecodeString(code)
		v, err := value.Get(b)
		if hex.EncodeToString(b) != code || err != api.OK {
			t.Fatalf("9.2: Get changed its bytes to %x", b)
		}
		clear(b)
		if !value.Same(v, want) {
			t.Errorf("9.2: Get kept its bytes: %s, want %s", show(v), show(want))
		}
		first, _ := value.Put(want)
		clear(first[:cap(first)])
		second, _ := value.Put(want)
		if hex.EncodeToString(second) != code {
			t.Errorf("9.2: Put again: %x, want %s", second, code)
		}
	}
}
