package undo

import (
	"strconv"
	"testing"

	"scriptorium/api"
	"scriptorium/space"
)

func TestWhatWasRevertedIsLetGo(t *testing.T) {
	u := New(space.New())
	for i := range 40 {
		u.Do(api.Effect{Entry: api.Entry{Key: strconv.Itoa(i % 7), Value: api.Value{Kind: api.KindString, Text: strconv.Itoa(i)}}})
	}
	for _, mark := range []int{39, 30, 17, 1, 0} {
		u.To(mark)
		for i, s := range u.steps[mark:cap(u.steps)] {
			if s.done != nil || s.revert != nil {
				t.Errorf("12.1: after To(%d), the effect %d behind it is kept", mark, i)
			}
		}
	}
}
