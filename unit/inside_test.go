package unit

import (
	"testing"

	"scriptorium/api"
	"scriptorium/record"
)

// No valid effect is too large for a record, so that only bodies of no effect show
// what is answered to one that is.
func TestRecordsOfTooLargeBodies(t *testing.T) {
	great, tooLarge := make([]byte, record.Most), make([]byte, record.Most+1)
	for _, l := range [][][]byte{{tooLarge}, {tooLarge, nil}, {nil, great, tooLarge}, {great, tooLarge, great}} {
		if b, err := records(l); len(b) != 0 || err != api.ErrLimit {
			t.Errorf("13.1: %d bodies, one too large: %d bytes, %d", len(l), len(b), err)
		}
	}
	if b, err := records([][]byte{great, nil, great}); len(b) != 3*headSize+2*record.Most || err != api.OK {
		t.Errorf("13.1: the greatest bodies: %d bytes, %d", len(b), err)
	}
}
