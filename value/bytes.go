package value

import "scriptorium/api"

// Numbers have four bytes if they count something, and eight if they are scores or
// parts of points.
const (
	countSize = 4
	wholeSize = 8
)

// Put returns the bytes of a valid value.
func Put(v api.Value) ([]byte, int) {
	if !May(v) {
		return nil, api.ErrArg
	}
	// Behind the Kind stands the length of a string as well as the number of elements;
	// all fields that do not belong to the Kind are empty and leave no bytes.
	b := appendCount([]byte{byte(v.Kind)}, Len(v))
	b = append(b, v.Text...)
	for _, s := range v.List {
		b = appendText(b, s)
	}
	for _, f := range v.Fields {
		b = appendText(appendText(b, f.Name), f.Text)
	}
	for _, e := range v.Scores {
		b = appendWhole(appendText(b, e.Name), e.Score)
	}
	for _, p := range v.Points {
		b = appendText(b, p.Name)
		b = appendWhole(b, int64(real(p.At)))
		b = appendWhole(b, int64(imag(p.At)))
	}
	return b, api.OK
}

// appendText appends s behind its length.
func appendText(b []byte, s string) []byte {
	return append(appendCount(b, len(s)), s...)
}

func appendCount(b []byte, n int) []byte {
	return appendNumber(b, uint64(n), countSize)
}

func appendWhole(b []byte, n int64) []byte {
	return appendNumber(b, uint64(n), wholeSize)
}

// appendNumber appends the lowest bytes of n, most significant byte first.
func appendNumber(b []byte, n uint64, size int) []byte {
	for i := range size {
		b = append(b, byte(n>>(8*(size-1-i))))
	}
	return b
}

// Get returns the value of bytes that Put made.
func Get(b []byte) (api.Value, int) {
	r := reader{rest: b}
	v := r.value()
	if r.broken || len(r.rest) > 0 || !May(v) {
		return api.Value{}, api.ErrBroken
	}
	return v, api.OK
}

// reader takes the parts of a value from the front of its bytes. As soon as one is
// not there, or is greater than in any valid value, it is broken, and only zeros come.
type reader struct {
	rest   []byte
	broken bool
}

// value takes a value, which may be invalid.
func (r *reader) value() api.Value {
	v := api.Value{Kind: int(r.number(1))}
	if v.Kind == api.KindString {
		v.Text = r.text()
		return v
	}
	for n := r.count(api.MaxElems); n > 0 && !r.broken; n-- {
		r.element(&v)
	}
	return v
}

// element takes an element, and adds it to those of v.
func (r *reader) element(v *api.Value) {
	switch v.Kind {
	case api.KindList:
		v.List = append(v.List, r.text())
	case api.KindHash:
		v.Fields = append(v.Fields, api.Field{Name: r.text(), Text: r.text()})
	case api.KindScores:
		v.Scores = append(v.Scores, api.Score{Name: r.text(), Score: r.whole()})
	case api.KindPoints:
		v.Points = append(v.Points, api.Point{Name: r.text(), At: complex(r.part(), r.part())})
	}
}

// text takes a string with its length in front.
func (r *reader) text() string {
	return string(r.take(r.count(api.MaxText)))
}

// count takes a number that is at most the bound.
func (r *reader) count(bound uint64) int {
	n := r.number(countSize)
	if n > bound {
		r.breakOff()
		return 0
	}
	return int(n)
}

// part takes a part of a point. Those that a float can't hold exactly are too great
// for a point, rounded or not.
func (r *reader) part() float64 {
	return float64(r.whole())
}

func (r *reader) whole() int64 {
	return int64(r.number(wholeSize))
}

// number takes so many bytes as a number, most significant byte first.
func (r *reader) number(size int) uint64 {
	var n uint64
	for _, b := range r.take(size) {
		n = n<<8 | uint64(b)
	}
	return n
}

// take takes the next n bytes.
func (r *reader) take(n int) []byte {
	if n > len(r.rest) {
		r.breakOff()
		return nil
	}
	taken := r.rest[:n]
	r.rest = r.rest[n:]
	return taken
}

func (r *reader) breakOff() {
	r.rest, r.broken = nil, true
}
