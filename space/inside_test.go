package space

import (
	"testing"

	"scriptorium/api"
)

func TestRemovedEntriesAreLetGo(t *testing.T) {
	s := New()
	for _, key := range []string{"a", "b", "c"} {
		s.Put(api.Entry{Key: key, Value: api.Value{Kind: api.KindString, Text: key}})
	}
	for _, key := range []string{"b", "a", "c"} {
		s.Del(key)
		for _, e := range s.entries[len(s.entries):cap(s.entries)] {
			if e.Key != "" || e.Value.Kind != api.KindNone {
				t.Errorf("10.1: after Del(%q): %q is kept", key, e.Key)
			}
		}
	}
}
