package value

import (
	"iter"
	"slices"

	"scriptorium/api"
)

// texts goes through all strings that v has by its Kind, names included.
func texts(v api.Value) iter.Seq[string] {
	switch v.Kind {
	case api.KindString:
		return func(yield func(string) bool) { yield(v.Text) }
	case api.KindList:
		return slices.Values(v.List)
	case api.KindHash:
		return fieldTexts(v.Fields)
	}
	return names(v)
}

// fieldTexts goes through both strings of each field.
func fieldTexts(l []api.Field) iter.Seq[string] {
	return func(yield func(string) bool) {
		for _, f := range l {
			if !yield(f.Name) || !yield(f.Text) {
				return
			}
		}
	}
}

// names goes through the names of v's elements; there are none if it has, by its
// Kind, no elements with names.
func names(v api.Value) iter.Seq[string] {
	switch v.Kind {
	case api.KindHash:
		return each(v.Fields, func(f api.Field) string { return f.Name })
	case api.KindScores:
		return each(v.Scores, func(e api.Score) string { return e.Name })
	case api.KindPoints:
		return each(v.Points, func(p api.Point) string { return p.Name })
	}
	return func(func(string) bool) {}
}

// each goes through what the elements of l have for a name.
func each[E any](l []E, name func(E) string) iter.Seq[string] {
	return func(yield func(string) bool) {
		for _, e := range l {
			if !yield(name(e)) {
				return
			}
		}
	}
}
