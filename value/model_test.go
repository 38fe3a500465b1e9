package value_test

import (
	"encoding/binary"
	"fmt"
	"math"
	"slices"
	"strings"
	"testing"

	"scriptorium/api"
	"scriptorium/value"
)

// chance gives the same numbers each time.
type chance uint64

func (c *chance) next() uint64 {
	*c ^= *c << 13
	*c ^= *c >> 7
	*c ^= *c << 17
	return uint64(*c)
}

func (c *chance) below(n int) int {
	return int(c.next() >> 20 % uint64(n))
}

// text has few bytes, of few kinds, so that texts are often equal.
func (c *chance) text() string {
	b := make([]byte, c.below(4))
	for i := range b {
		b[i] = "ab\x00\xff"[c.below(4)]
	}
	return string(b)
}

func (c *chance) score() int64 {
	return []int64{math.MinInt64, -1, 0, 1, math.MaxInt64}[c.below(5)]
}

func (c *chance) part() float64 {
	return []float64{-most, -1, 0, 1, most}[c.below(5)]
}

func newChance() *chance {
	c := chance(88172645463325252)
	return &c
}

// value has up to 4 elements, which are now and then not in their order.
func (c *chance) value() api.Value {
	v := api.Value{Kind: 1 + c.below(5)}
	if v.Kind == api.KindString {
		v.Text = c.text()
	}
	for range c.below(5) {
		switch v.Kind {
		case api.KindList:
			v.List = append(v.List, c.text())
		case api.KindHash:
			v.Fields = append(v.Fields, api.Field{Name: c.text(), Text: c.text()})
		case api.KindScores:
			v.Scores = append(v.Scores, api.Score{Name: c.text(), Score: c.score()})
		case api.KindPoints:
			v.Points = append(v.Points, api.Point{Name: c.text(), At: complex(c.part(), c.part())})
		}
	}
	if c.below(3) > 0 {
		sortElements(v)
	}
	return v
}

func sortElements(v api.Value) {
	slices.SortFunc(v.Fields, func(a, b api.Field) int { return strings.Compare(a.Name, b.Name) })
	slices.SortFunc(v.Points, func(a, b api.Point) int { return strings.Compare(a.Name, b.Name) })
	slices.SortFunc(v.Scores, func(a, b api.Score) int {
		switch {
		case a.Score < b.Score:
			return -1
		case a.Score > b.Score:
			return 1
		}
		return strings.Compare(a.Name, b.Name)
	})
}

// modelMay holds every two elements against each other; it leaves out the limits, which
// values of chance do not reach.
func modelMay(v api.Value) bool {
	for i := range v.Fields {
		for j := range i {
			if v.Fields[j].Name >= v.Fields[i].Name {
				return false
			}
		}
	}
	for i, p := range v.Points {
		for j := range i {
			if v.Points[j].Name >= p.Name {
				return false
			}
		}
		if math.Abs(real(p.At)) > most || math.Abs(imag(p.At)) > most {
			return false
		}
	}
	for i, e := range v.Scores {
		for _, before := range v.Scores[:i] {
			if before.Name == e.Name || before.Score > e.Score || before.Score == e.Score && before.Name > e.Name {
				return false
			}
		}
	}
	return v.Kind == api.KindString || len(v.List)+len(v.Fields)+len(v.Scores)+len(v.Points) > 0
}

// modelPut is the document's encoding, of valid values and of others.
func modelPut(v api.Value) []byte {
	text := func(b []byte, s string) []byte {
		return append(binary.BigEndian.AppendUint32(b, uint32(len(s))), s...)
	}
	b := []byte{byte(v.Kind)}
	if v.Kind == api.KindString {
		return text(b, v.Text)
	}
	b = binary.BigEndian.AppendUint32(b, uint32(len(v.List)+len(v.Fields)+len(v.Scores)+len(v.Points)))
	for _, s := range v.List {
		b = text(b, s)
	}
	for _, f := range v.Fields {
		b = text(text(b, f.Name), f.Text)
	}
	for _, e := range v.Scores {
		b = binary.BigEndian.AppendUint64(text(b, e.Name), uint64(e.Score))
	}
	for _, p := range v.Points {
		b = text(b, p.Name)
		b = binary.BigEndian.AppendUint64(b, uint64(int64(real(p.At))))
		b = binary.BigEndian.AppendUint64(b, uint64(int64(imag(p.At))))
	}
	return b
}

// modelGet reads b as long as it can, and tells whether it is all of a valid value.
func modelGet(b []byte) (v api.Value, ok bool) {
	defer func() {
		if recover() != nil {
			v, ok = api.Value{}, false
		}
	}()
	count := func() int {
		n := binary.BigEndian.Uint32(b)
		b = b[4:]
		return int(n)
	}
	text := func() string {
		n := count()
		s := string(b[:n])
		b = b[n:]
		return s
	}
	whole := func() int64 {
		n := binary.BigEndian.Uint64(b)
		b = b[8:]
		return int64(n)
	}
	v.Kind = int(b[0])
	b = b[1:]
	switch v.Kind {
	case api.KindString:
		v.Text = text()
	case api.KindList:
		for range count() {
			v.List = append(v.List, text())
		}
	case api.KindHash:
		for range count() {
			name := text()
			v.Fields = append(v.Fields, api.Field{Name: name, Text: text()})
		}
	case api.KindScores:
		for range count() {
			name := text()
			v.Scores = append(v.Scores, api.Score{Name: name, Score: whole()})
		}
	case api.KindPoints:
		for range count() {
			name, re := text(), whole()
			v.Points = append(v.Points, api.Point{Name: name, At: complex(float64(re), float64(whole()))})
		}
	default:
		return api.Value{}, false
	}
	if len(b) > 0 || !modelMay(v) {
		return api.Value{}, false
	}
	return v, true
}

func TestMayAgainstModel(t *testing.T) {
	c := newChance()
	var valid [6]int
	for range 100000 {
		v := c.value()
		want := modelMay(v)
		if got := value.May(v); got != want {
			t.Fatalf("9.1: May(%s): %v", show(v), got)
		}
		if want {
			valid[v.Kind]++
		}
	}
	for kind, n := range valid[1:] {
		if n < 5000 || kind > 1 && n > 19000 {
			t.Errorf("9.1: %d values of kind %d are valid: chance tries one side too little", n, kind+1)
		}
	}
}

func TestPutAgainstModel(t *testing.T) {
	c := newChance()
	for range 50000 {
		v := c.value()
		b, err := value.Put(v)
		if !modelMay(v) {
			if b != nil || err != api.ErrArg {
				t.Fatalf("9.2: Put(%s): %x, %d", show(v), b, err)
			}
			continue
		}
		if err != api.OK || !slices.Equal(b, modelPut(v)) {
			t.Fatalf("9.2: Put(%s): %x, %d, want %x", show(v), b, err, modelPut(v))
		}
		wantGet(t, b, v)
	}
}

// What Put refuses, Get refuses too, though its bytes are those of some value.
func TestGetOfInvalidValues(t *testing.T) {
	c := newChance()
	for range 50000 {
		if v := c.value(); !modelMay(v) {
			wantBroken(t, fmt.Sprintf("the bytes of %s", show(v)), modelPut(v))
		}
	}
}

// Values whose bytes are damaged are told apart from values of other bytes.
func TestGetOfDamagedBytes(t *testing.T) {
	c := newChance()
	restored := 0
	for range 3000 {
		b := modelPut(c.value())
		for range 40 {
			damaged := slices.Clone(b)
			switch c.below(4) {
			case 0:
				damaged[c.below(len(b))] = byte(c.below(7))
			case 1:
				damaged[c.below(len(b))] ^= 1 << c.below(8)
			case 2:
				damaged = slices.Delete(damaged, c.below(len(b)), len(b)-c.below(2))
			case 3:
				damaged = slices.Insert(damaged, c.below(len(b)+1), byte(c.below(7)))
			}
			want, ok := modelGet(damaged)
			if !ok {
				wantBroken(t, "damaged bytes", damaged)
				continue
			}
			restored++
			wantGet(t, damaged, want)
		}
	}
	if restored < 5000 {
		t.Errorf("9.2: %d damaged values are values: chance tries one side too little", restored)
	}
}
