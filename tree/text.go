package tree

import (
	"strings"

	"scriptorium/api"
)

// Text returns a source that means l.
func Text(l []api.Stat) string {
	w := writer{stats: statWriters(), exps: expWriters()}
	w.block(l)
	return w.out.String()
}

// writer visits a tree by the functions of the kinds, which write down what they meet.
// What no parse returns (a kind that is none, a part that is missing) leaves no text.
type writer struct {
	out   strings.Builder
	stats map[int]func(*writer, api.Stat)
	exps  map[int]func(*writer, api.Exp)
}

func (w *writer) add(texts ...string) {
	for _, s := range texts {
		w.out.WriteString(s)
	}
}

// block writes each statement on a line. There is nothing in front of it, since the
// text would outgrow its source with every level.
func (w *writer) block(l []api.Stat) {
	for _, s := range l {
		if write, ok := w.stats[s.Kind]; ok {
			write(w, s)
			w.add("\n")
		}
	}
}

func (w *writer) exp(e api.Exp) {
	if write, ok := w.exps[e.Kind]; ok {
		write(w, e)
	}
}

// list writes expressions with commas between them.
func (w *writer) list(l []api.Exp) {
	for i, e := range l {
		if i > 0 {
			w.add(", ")
		}
		w.exp(e)
	}
}

// at returns an element of l, or nothing.
func at[T any](l []T, i int) T {
	var none T
	if i < len(l) {
		return l[i]
	}
	return none
}
