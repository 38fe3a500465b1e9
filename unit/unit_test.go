package unit_test

import (
	"bytes"
	"encoding/binary"
	"encoding/hex"
	"fmt"
	"hash/crc32"
	"math"
	"slices"
	"strings"
	"testing"

	"scriptorium/api"
	"scriptorium/effect"
	"scriptorium/unit"
	"scriptorium/value"
)

// most is the number of effects that a unit may have.
const most = 65536

func text(s string) api.Value { return api.Value{Kind: api.KindString, Text: s} }

func list(l ...string) api.Value { return api.Value{Kind: api.KindList, List: l} }

func put(key string, v api.Value, until int64) api.Effect {
	return api.Effect{Entry: api.Entry{Key: key, Value: v, Until: until}}
}

func remove(key string) api.Effect {
	return api.Effect{Entry: api.Entry{Key: key}}
}

func sameEffect(a, b api.Effect) bool {
	return a.Entry.Key == b.Entry.Key && a.Entry.Until == b.Entry.Until && value.Same(a.Entry.Value, b.Entry.Value)
}

func sameUnit(a, b []api.Effect) bool { return slices.EqualFunc(a, b, sameEffect) }

// someEffects are one of each kind of value, and removed keys.
func someEffects() []api.Effect {
	return []api.Effect{
		put("text", text("abc"), 5),
		remove("a"),
		put("\xff\x00", list("a", "", "bc"), 0),
		put("hash", api.Value{Kind: api.KindHash, Fields: []api.Field{{Name: "f", Text: "1"}, {Name: "g", Text: ""}}}, api.MaxTime),
		put("scores", api.Value{Kind: api.KindScores, Scores: []api.Score{{Name: "z", Score: -1}, {Name: "a", Score: 7}}}, 0),
		remove(strings.Repeat("k", api.MaxKey)),
		put("points", api.Value{Kind: api.KindPoints, Points: []api.Point{{Name: "p", At: 1 - 2i}, {Name: "q", At: -3i}}}, 256),
		put("k", text(""), 0),
	}
}

// greatestEffects have, in each kind, so many elements and such sizes that nothing
// could be added.
func greatestEffects() []api.Effect {
	texts := api.Value{Kind: api.KindList}
	fields := api.Value{Kind: api.KindHash}
	scores := api.Value{Kind: api.KindScores}
	points := api.Value{Kind: api.KindPoints}
	room := api.MaxSize - 16 - 16*api.MaxElems
	for i := range api.MaxElems {
		name := fmt.Sprintf("%04d", i)
		rest := strings.Repeat("x", room/(api.MaxElems-i)-len(name))
		room -= len(name + rest)
		texts.List = append(texts.List, name+rest)
		fields.Fields = append(fields.Fields, api.Field{Name: name, Text: rest})
		scores.Scores = append(scores.Scores, api.Score{Name: name + rest, Score: math.MaxInt64})
		points.Points = append(points.Points, api.Point{Name: name + rest, At: complex(api.MaxWhole, -api.MaxWhole)})
	}
	var l []api.Effect
	for _, v := range []api.Value{text(strings.Repeat("x", api.MaxText)), texts, fields, scores, points} {
		l = append(l, put(strings.Repeat("k", api.MaxKey), v, api.MaxTime))
	}
	return l
}

func invalidEffects() map[string]api.Effect {
	long := strings.Repeat("k", api.MaxKey+1)
	return map[string]api.Effect{
		"nothing":                 {},
		"an empty key":            put("", text("v"), 0),
		"a key too long":          put(long, text("v"), 0),
		"a removed key too long":  remove(long),
		"a negative time":         put("k", text("v"), -1),
		"a time too late":         put("k", text("v"), api.MaxTime+1),
		"a text too long":         put("k", text(strings.Repeat("x", api.MaxText+1)), 0),
		"a list without any":      put("k", list(), 0),
		"a list of too many":      put("k", list(make([]string, api.MaxElems+1)...), 0),
		"a kind too great":        put("k", api.Value{Kind: 6}, 0),
		"removed until 5":         put("k", api.Value{}, 5),
		"removed with a text":     put("k", api.Value{Text: "t"}, 0),
		"fields in another order": put("k", api.Value{Kind: api.KindHash, Fields: []api.Field{{Name: "b"}, {Name: "a"}}}, 0),
		"a place that is none":    put("k", api.Value{Kind: api.KindPoints, Points: []api.Point{{Name: "p", At: 0.5}}}, 0),
		"more than a record has":  put("k", list(strings.Repeat("x", 1<<21)), 0),
	}
}

// sealed returns bodies in records, made by the words of chapter 4.
func sealed(bodies ...string) []byte {
	var b []byte
	for _, body := range bodies {
		size := binary.BigEndian.AppendUint32(nil, uint32(len(body)))
		sum := crc32.Update(crc32.ChecksumIEEE(size), crc32.IEEETable, []byte(body))
		b = append(binary.BigEndian.AppendUint32(append(b, size...), sum), body...)
	}
	return b
}

// counted is the body of a letter and a number.
func counted(letter string, n uint32) string {
	return letter + string(binary.BigEndian.AppendUint32(nil, n))
}

// of is the body of an effect.
func of(e api.Effect) string {
	b, _ := effect.Put(e)
	return "E" + string(b)
}

// bodies are those of a unit, by the words of 13.1.
func bodies(l ...api.Effect) []string {
	all := []string{counted("B", uint32(len(l)))}
	for _, e := range l {
		all = append(all, of(e))
	}
	return append(all, counted("C", uint32(len(l))))
}

// model is what Write must return for a unit.
func model(l ...api.Effect) []byte { return sealed(bodies(l...)...) }

// wantWrite holds Write against the model.
func wantWrite(t *testing.T, what string, l ...api.Effect) {
	t.Helper()
	got, err := unit.Write(l)
	if want := model(l...); err != api.OK || !bytes.Equal(got, want) {
		t.Fatalf("13.1: Write of %s: %.100x, %d, want %.100x", what, got, err, want)
	}
}

func wantNoWrite(t *testing.T, what string, l ...api.Effect) {
	t.Helper()
	if got, err := unit.Write(l); len(got) != 0 || err != api.ErrArg {
		t.Fatalf("13.1: Write of %s: %.100x, %d", what, got, err)
	}
}

// wantRead holds Read and Play against the units that stand at the beginning of b.
func wantRead(t *testing.T, what string, b []byte, want ...[]api.Effect) {
	t.Helper()
	size := 0
	for _, l := range want {
		size += len(model(l...))
	}
	got, n := unit.Read(b)
	if n != size || !slices.EqualFunc(got, want, sameUnit) {
		t.Fatalf("%s: Read: %d units, %d bytes, want %d units, %d bytes: %.100v, want %.100v", what, len(got), n, len(want), size, got, want)
	}
	got, n, isAll := unit.Play(b)
	if n != size || !slices.EqualFunc(got, want, sameUnit) || isAll != (size == len(b)) {
		t.Fatalf("%s: Play: %d units, %d bytes, %v, want %d units, %d bytes of %d", what, len(got), n, isAll, len(want), size, len(b))
	}
}

// known are units, and their bytes record by record, with checksums made elsewhere.
func known() map[string][]api.Effect {
	const removed = "0000000e6cdc2e2b" + "45" + "0000000000000000" + "00000001" + "61"
	const until5 = "00000014d1e470c5" + "45" + "0000000000000005" + "00000001" + "6b" + "01" + "00000001" + "61"
	const strings = "0000001e4632f401" + "45" + "0000000000000000" + "00000002" + "ff00" + "02" + "00000002" + "00000000" + "00000002" + "6263"
	a, k, l := remove("a"), put("k", text("a"), 5), put("\xff\x00", list("", "bc"), 0)
	return map[string][]api.Effect{
		"00000005e3f0bea2" + "4200000001" + removed + "00000005de909712" + "4300000001":                    {a},
		"000000057af9ef18" + "4200000002" + until5 + removed + "000000054799c6a8" + "4300000002":           {k, a},
		"000000050dfedf8e" + "4200000003" + strings + removed + until5 + "00000005309ef63e" + "4300000003": {l, a, k},
	}
}

func TestKnownBytes(t *testing.T) {
	for want, l := range known() {
		b, err := unit.Write(l)
		if got := hex.EncodeToString(b); got != want || err != api.OK {
			t.Errorf("13.1: Write(%v): %s, %d, want %s", l, got, err, want)
		}
		b, _ = hex.DecodeString(want)
		wantRead(t, "13.2: "+want, b, l)
	}
}

func TestWriteOfEachEffect(t *testing.T) {
	for _, e := range append(someEffects(), greatestEffects()...) {
		wantWrite(t, "one effect", e)
		wantRead(t, "13.2: one effect", model(e), []api.Effect{e})
		wantWrite(t, "one effect twice", e, e)
		wantRead(t, "13.2: one effect twice", model(e, e), []api.Effect{e, e})
	}
}

// The document says when an effect is too large for a record, but no valid one is.
func TestGreatestEffects(t *testing.T) {
	for _, e := range greatestEffects() {
		name := value.Name(e.Entry.Value.Kind)
		if e.Entry.Value.Kind != api.KindString && (value.Len(e.Entry.Value) != api.MaxElems || value.Size(e.Entry.Value) != api.MaxSize) {
			t.Errorf("13.1: the greatest %s has %d elements and the size %d", name, value.Len(e.Entry.Value), value.Size(e.Entry.Value))
		}
		wantWrite(t, "the greatest "+name, e)
	}
	wantWrite(t, "the greatest effects", greatestEffects()...)
	wantRead(t, "13.2: the greatest effects", model(greatestEffects()...), greatestEffects())
}

// many are so many different effects.
func many(n int) []api.Effect {
	l := make([]api.Effect, n)
	for i := range l {
		l[i] = remove(fmt.Sprint(i))
	}
	return l
}

func TestWriteOfAllLengths(t *testing.T) {
	for n := 1; n <= 300; n++ {
		l := many(n)
		wantWrite(t, fmt.Sprint(n, " effects"), l...)
		wantRead(t, fmt.Sprint("13.2: ", n, " effects"), model(l...), l)
	}
	for _, n := range []int{1000, 1<<15 - 1, 1 << 15, most - 256, most - 1, most} {
		l := many(n)
		wantWrite(t, fmt.Sprint(n, " effects"), l...)
		wantRead(t, fmt.Sprint("13.2: ", n, " effects"), model(l...), l)
	}
}

func TestWriteOfWrongLengths(t *testing.T) {
	wantNoWrite(t, "nil")
	wantNoWrite(t, "no effects", []api.Effect{}...)
	wantNoWrite(t, "no effects of some", someEffects()[:0]...)
	for _, n := range []int{most + 1, most + 2, most + 256, 2 * most, 2*most + 1, 1 << 20} {
		wantNoWrite(t, fmt.Sprint(n, " effects"), many(n)...)
	}
}

func TestWriteOfInvalidEffects(t *testing.T) {
	for what, wrong := range invalidEffects() {
		wantNoWrite(t, what, wrong)
		wantNoWrite(t, what+" in front", append([]api.Effect{wrong}, someEffects()...)...)
		wantNoWrite(t, what+" behind", append(someEffects(), wrong)...)
		wantNoWrite(t, what+" in between", slices.Insert(someEffects(), 3, wrong)...)
		wantNoWrite(t, what+" behind the greatest", append(greatestEffects(), wrong)...)
		wantNoWrite(t, what+" twice", wrong, wrong)
	}
	l := many(most)
	for _, at := range []int{0, most / 2, most - 1} {
		before := l[at]
		l[at] = api.Effect{}
		wantNoWrite(t, fmt.Sprint("an invalid effect in the place ", at), l...)
		l[at] = before
	}
}

// A unit is not changed by what is done to its effects, and effects stay as they are.
func TestWriteKeepsNothing(t *testing.T) {
	l := someEffects()
	want := model(l...)
	first, _ := unit.Write(l)
	if !sameUnit(l, someEffects()) {
		t.Fatalf("13.1: Write changed its effects to %v", l)
	}
	turn(l)
	if !bytes.Equal(first, want) {
		t.Error("13.1: a unit changes with its effects")
	}
	second, _ := unit.Write(someEffects())
	clear(second[:cap(second)])
	if third, _ := unit.Write(someEffects()); !bytes.Equal(first, want) || !bytes.Equal(third, want) {
		t.Error("13.1: units share memory")
	}
}

// turn changes all effects, and all elements of their values.
func turn(l []api.Effect) {
	for i := range l {
		v := l[i].Entry.Value
		for i := range v.List {
			v.List[i] = "turned"
		}
		for i := range v.Fields {
			v.Fields[i] = api.Field{Name: "turned", Text: "turned"}
		}
		for i := range v.Scores {
			v.Scores[i] = api.Score{Name: "turned", Score: 99}
		}
		for i := range v.Points {
			v.Points[i] = api.Point{Name: "turned", At: 99}
		}
		l[i] = remove("turned")
	}
}
