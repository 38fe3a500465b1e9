package unit_test

import (
	"bytes"
	"encoding/hex"
	"fmt"
	"slices"
	"strings"
	"testing"

	"scriptorium/api"
	"scriptorium/unit"
)

// someUnits have different numbers of effects, and some of them the same effects.
func someUnits() [][]api.Effect {
	all := someEffects()
	return [][]api.Effect{all[:1], all[1:3], {all[1]}, {all[1]}, {all[1], all[1]}, all[2:], {all[7]}, {all[3], all[0]}}
}

// sequence returns the bytes of units, one directly after another.
func sequence(units ...[]api.Effect) []byte {
	var b []byte
	for _, l := range units {
		b = append(b, model(l...)...)
	}
	return b
}

func TestReadOfNothing(t *testing.T) {
	for _, b := range [][]byte{nil, {}, make([]byte, 0, 64), model(remove("a"))[:0]} {
		wantRead(t, "13.2: nothing", b)
		if _, _, isAll := unit.Play(b); !isAll {
			t.Error("13.2: Play of nothing: false")
		}
	}
}

func TestReadOfNoUnits(t *testing.T) {
	for _, b := range [][]byte{
		{0}, make([]byte, 7), make([]byte, 8), make([]byte, 1000), bytes.Repeat([]byte{0xFF}, 1000), []byte("BEC"),
		[]byte("these bytes are no unit"), model(remove("a"))[1:], []byte("B\x00\x00\x00\x01"),
	} {
		wantRead(t, "13.2: no unit", b)
	}
}

func TestSequences(t *testing.T) {
	units := someUnits()
	for n := range len(units) + 1 {
		wantRead(t, "13.2: several units", sequence(units[:n]...), units[:n]...)
		wantRead(t, "13.2: several units, turned", sequence(units[n:]...), units[n:]...)
	}
	small := slices.Repeat([][]api.Effect{{remove("a")}}, 20000)
	wantRead(t, "13.2: many units", sequence(small...), small...)
	great := [][]api.Effect{many(most), many(1), many(most), many(most - 1)}
	wantRead(t, "13.2: units of many effects", sequence(great...), great...)
}

// Of the beginning of a sequence, those units are read that are complete in it.
func TestEveryCut(t *testing.T) {
	units := someUnits()
	whole := sequence(units...)
	complete, end := 0, 0
	for cut := range len(whole) + 1 {
		if complete < len(units) && cut == end+len(model(units[complete]...)) {
			complete, end = complete+1, cut
		}
		wantRead(t, "13.3: a beginning", whole[:cut], units[:complete]...)
		wantRead(t, "13.3: a beginning of its own", bytes.Clone(whole[:cut]), units[:complete]...)
		if _, _, isAll := unit.Play(whole[:cut]); isAll != (cut == end) {
			t.Fatalf("13.2: Play of %d bytes: %v, the units end at %d", cut, isAll, end)
		}
	}
	if complete != len(units) {
		t.Errorf("13.3: %d units complete in all bytes, want %d", complete, len(units))
	}
}

func TestEveryTurnedByte(t *testing.T) {
	for code, l := range known() {
		b, _ := hex.DecodeString(code)
		for at, was := range b {
			for other := range 256 {
				if b[at] = byte(other); b[at] != was {
					wantRead(t, "13.2: a unit with one byte turned", b)
				}
			}
			b[at] = was
		}
		wantRead(t, "13.2: a unit with no byte turned", b, l)
	}
}

// Behind a damaged unit no other is looked for, and those in front of it stay.
func TestDamageInSequences(t *testing.T) {
	units := someUnits()
	whole := sequence(units...)
	start := 0
	for n, l := range units {
		end := start + len(model(l...))
		for at := start; at < end; at++ {
			b := bytes.Clone(whole)
			b[at] ^= 0xA5
			wantRead(t, "13.2: units with one byte turned", b, units[:n]...)
		}
		wantRead(t, "13.2: units with a byte too many", slices.Insert(bytes.Clone(whole), start, 0x2A), units[:n]...)
		wantRead(t, "13.2: units with a byte too few", slices.Delete(bytes.Clone(whole), start, start+1), units[:n]...)
		wantRead(t, "13.2: units without one", slices.Delete(bytes.Clone(whole), start, end), slices.Delete(slices.Clone(units), n, n+1)...)
		start = end
	}
}

// What follows hides no unit in front of it.
func TestWhatFollows(t *testing.T) {
	c := newChance()
	units := someUnits()
	whole := sequence(units...)
	for n := range 100 {
		for _, more := range [][]byte{make([]byte, n), bytes.Repeat([]byte{0xFF}, n), c.bytes(n), sealed(slices.Repeat([]string{""}, n)...)} {
			wantRead(t, "13.2: units and what follows", append(bytes.Clone(whole), more...), units...)
		}
	}
}

// wrongOrders are bodies that are right by themselves, but in no unit's order.
func wrongOrders() map[string][]string {
	a, b := of(remove("a")), of(remove("b"))
	b1, c1, b2, c2 := counted("B", 1), counted("C", 1), counted("B", 2), counted("C", 2)
	return map[string][]string{
		"a beginning only":                 {b1},
		"an effect only":                   {a},
		"an end only":                      {c1},
		"no end":                           {b1, a},
		"no beginning":                     {a, c1},
		"no effect":                        {b1, c1},
		"no effects, and the number 0":     {counted("B", 0), counted("C", 0)},
		"an end of 0 only":                 {counted("C", 0)},
		"one effect, and the number 0":     {counted("B", 0), a, counted("C", 0)},
		"too many effects":                 {b1, a, b, c1},
		"too few effects":                  {b2, a, c2},
		"two, and an end of one":           {b2, a, b, c1},
		"one, and an end of two":           {b1, a, c2},
		"two, and an end of one too early": {b2, a, c1, b, c2},
		"two beginnings":                   {b1, b1, a, c1},
		"two beginnings, two effects":      {b2, a, b2, b, c2},
		"a beginning for an effect":        {b2, a, b1, c2},
		"a beginning for an end":           {b1, a, b1},
		"an end for a beginning":           {c1, a, c1},
		"an end for an effect":             {b2, a, c2, c2},
		"an effect for a beginning":        {a, a, c1},
		"an effect for an end":             {b1, a, a},
		"a unit in a unit":                 {b1, b1, a, c1, c1},
		"another order":                    {c1, a, b1},
		"an end in front of the effect":    {b1, c1, a},
	}
}

// wrongBodies have, in the order of a unit, a body that no unit has.
func wrongBodies() map[string][]string {
	a, again := of(remove("a")), of(put("a", text("v"), 5))
	b1, c1, b2, c2 := counted("B", 1), counted("C", 1), counted("B", 2), counted("C", 2)
	return map[string][]string{
		"an empty body":                   {""},
		"a letter only":                   {"B"},
		"an empty body for a beginning":   {"", a, c1},
		"an empty body for an effect":     {b1, "", c1},
		"an empty body for an end":        {b1, a, ""},
		"an empty body in between":        {b1, "", a, c1},
		"an effect without bytes":         {b1, "E", c1},
		"an effect without its last byte": {b1, a[:len(a)-1], c1},
		"an effect and one byte":          {b1, again + "\x00", c1},
		"an effect in two bodies":         {b2, a[:10], "E" + a[10:], c2},
		"two effects in one body":         {b2, a + a, c2},
		"two effects in one body of one":  {b1, a + a[1:], c1},
		"an effect that is not valid":     {b1, "E" + strings.Repeat("\x00", 12), c1},
		"a removed key with a time":       {b1, "E" + strings.Repeat("\x00", 7) + "\x05\x00\x00\x00\x01a", c1},
		"no value":                        {b1, "E" + strings.Repeat("\x00", 11) + "\x01k\x02\x00\x00\x00\x00", c1},
		"a second effect that is broken":  {b2, a, "Exyz", c2},
		"all in one body":                 {b1 + a + c1},
	}
}

// wrongForms have a number or a letter that is written otherwise.
func wrongForms() map[string][]string {
	a, b1, c1 := of(remove("a")), counted("B", 1), counted("C", 1)
	l := map[string][]string{}
	for what, number := range map[string]string{
		"without": "", "with 1 byte of": "\x01", "with 3 bytes of": "\x00\x00\x01", "with 5 bytes of": "\x00\x00\x00\x00\x01",
		"with 8 bytes of": "\x00\x00\x00\x00\x00\x00\x00\x01", "with the turned bytes of": "\x01\x00\x00\x00",
		"with a byte behind": "\x00\x00\x00\x01\x00", "with the text of": "1",
	} {
		l["a beginning "+what+" its number"] = []string{"B" + number, a, c1}
		l["an end "+what+" its number"] = []string{b1, a, "C" + number}
		l["both "+what+" their number"] = []string{"B" + number, a, "C" + number}
	}
	for i := range 256 {
		letter := string([]byte{byte(i)})
		if letter != "B" {
			l[fmt.Sprintf("the letter %q of a beginning", letter)] = []string{letter + b1[1:], a, c1}
		}
		if letter != "E" {
			l[fmt.Sprintf("the letter %q of an effect", letter)] = []string{b1, letter + a[1:], c1}
		}
		if letter != "C" {
			l[fmt.Sprintf("the letter %q of an end", letter)] = []string{b1, a, letter + c1[1:]}
		}
	}
	return l
}

// All checksums of the records are right, and still there is no unit.
func TestWrongUnits(t *testing.T) {
	first, last := someEffects()[:2], someEffects()[2:4]
	for _, wrong := range []map[string][]string{wrongOrders(), wrongBodies(), wrongForms()} {
		for what, l := range wrong {
			b := sealed(l...)
			wantRead(t, "13.2: "+what, b)
			wantRead(t, "13.2: behind a unit: "+what, slices.Concat(model(first...), b), first)
			wantRead(t, "13.2: between units: "+what, slices.Concat(model(first...), b, model(last...)), first)
		}
	}
	// The same bodies in the right form are one.
	wantRead(t, "13.2: the right form", sealed(counted("B", 1), of(remove("a")), counted("C", 1)), []api.Effect{remove("a")})
}

// Both numbers must be how many effects there are.
func TestWrongNumbers(t *testing.T) {
	first := someEffects()[:2]
	numbers := []uint32{0, 1, 2, 3, 4, 255, 256, 257, 258, 65535, 65536, 65537, 65538, 1 << 24, 1<<24 + 2, 1<<31 - 1, 1 << 31, 1<<31 + 2, 1<<32 - 1}
	for effects := range 4 {
		inner := bodies(many(effects)...)[1 : effects+1]
		for _, begin := range numbers {
			for _, end := range numbers {
				if effects > 0 && begin == uint32(effects) && end == uint32(effects) {
					continue
				}
				l := slices.Concat([]string{counted("B", begin)}, inner, []string{counted("C", end)})
				wantRead(t, "13.2: wrong numbers", sealed(l...))
				wantRead(t, "13.2: wrong numbers behind a unit", append(model(first...), sealed(l...)...), first)
			}
		}
	}
}

// Write makes no unit of so many effects, and so none is read, with right checksums or not.
func TestTooManyEffects(t *testing.T) {
	for _, n := range []int{most + 1, most + 256, 2 * most} {
		wantRead(t, fmt.Sprint("13.2: ", n, " effects"), model(many(n)...))
		wantRead(t, fmt.Sprint("13.2: one unit, and one of ", n, " effects"), sequence(many(3), many(n)), many(3))
	}
	l := bodies(many(most)...)
	wantRead(t, "13.2: one effect less than the numbers say", sealed(slices.Delete(slices.Clone(l), 9, 10)...))
	wantRead(t, "13.2: one effect more than the numbers say", sealed(slices.Insert(slices.Clone(l), 9, of(remove("x")))...))
}

// An effect that Put does not make is none, although its bytes could be taken for one.
func TestInvalidEffectsAreNotRead(t *testing.T) {
	long := strings.Repeat("k", api.MaxKey+1)
	b := sealed(counted("B", 1), "E"+strings.Repeat("\x00", 10)+"\x02\x01"+long, counted("C", 1))
	wantRead(t, "13.2: a key too long", b)
	for _, until := range []string{"\x00\x04\x00\x00\x00\x00\x00\x01", "\xff\xff\xff\xff\xff\xff\xff\xff", "\x80\x00\x00\x00\x00\x00\x00\x05"} {
		b := sealed(counted("B", 1), "E"+until+"\x00\x00\x00\x01k\x01\x00\x00\x00\x01a", counted("C", 1))
		wantRead(t, "13.2: a wrong time", b)
	}
}

// The bytes of units may stand in texts and keys, and are not read as units there.
func TestUnitsInEffects(t *testing.T) {
	inner := string(sequence(someUnits()[1:4]...))
	short := string(model(remove("a")))
	l := []api.Effect{put("k", text(inner[:min(len(inner), api.MaxText)]), 0), put(short, list(short, short), 5), remove(short)}
	wantWrite(t, "units", l...)
	whole := model(l...)
	wantRead(t, "13.2: units in effects", whole, l)
	for cut := range whole {
		wantRead(t, "13.3: a beginning of units in effects", whole[:cut])
	}
}

// Read and Play neither change nor keep what they are given, and what they return is the caller's.
func TestReadKeepsNothing(t *testing.T) {
	want := someUnits()
	for what, read := range map[string]func([]byte) [][]api.Effect{
		"Read": func(b []byte) [][]api.Effect { l, _ := unit.Read(b); return l },
		"Play": func(b []byte) [][]api.Effect { l, _, _ := unit.Play(b); return l },
	} {
		whole := sequence(want...)
		first, second := read(whole), read(whole)
		if !bytes.Equal(whole, sequence(want...)) {
			t.Fatalf("13.2: %s changed its bytes", what)
		}
		clear(whole)
		for i, l := range first {
			// Nothing that is done to a unit, nor what is appended to it, reaches those behind it.
			turn(append(l, remove("more")))
			turn(l)
			if !slices.EqualFunc(first[i+1:], want[i+1:], sameUnit) {
				t.Errorf("13.2: %s: unit %d shares memory with one behind it", what, i)
			}
		}
		if !slices.EqualFunc(second, want, sameUnit) {
			t.Errorf("13.2: %s kept its bytes, or shares its units", what)
		}
	}
}

// Only the bytes of the piece count, not what lies around it in memory.
func TestPieceOfMore(t *testing.T) {
	units := someUnits()
	whole := sequence(units...)
	first := len(model(units[0]...))
	second := first + len(model(units[1]...))
	wantRead(t, "13.2: a piece of more", whole[first:second], units[1])
	wantRead(t, "13.2: a piece of more, without a byte", whole[first:second-1])
}
