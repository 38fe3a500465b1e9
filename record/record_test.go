package record_test

import (
	"bytes"
	"encoding/binary"
	"encoding/hex"
	"hash/crc32"
	"slices"
	"testing"

	"scriptorium/api"
	"scriptorium/record"
)

// head is the number of bytes in front of a body.
const head = 8

// chance gives the same numbers each time.
type chance uint64

func (c *chance) next() uint64 {
	*c ^= *c << 13
	*c ^= *c >> 7
	*c ^= *c << 17
	return uint64(*c)
}

func (c *chance) below(n int) int {
	return int(c.next() >> 20 % uint64(n))
}

func (c *chance) bytes(count int) []byte {
	b := make([]byte, count)
	for i := range b {
		b[i] = byte(c.next() >> 20)
	}
	return b
}

func newChance() *chance {
	c := chance(88172645463325252)
	return &c
}

// sealed returns a body behind a length and the checksum of both, whatever the length says.
func sealed(length uint32, body []byte) []byte {
	size := binary.BigEndian.AppendUint32(nil, length)
	sum := crc32.Update(crc32.ChecksumIEEE(size), crc32.IEEETable, body)
	return append(binary.BigEndian.AppendUint32(size, sum), body...)
}

// wantFrame is a frame as the document says it is made.
func wantFrame(body []byte) []byte {
	return sealed(uint32(len(body)), body)
}

func frame(t *testing.T, body []byte) []byte {
	t.Helper()
	b, err := record.Frame(body)
	if err != api.OK {
		t.Fatalf("4.1: Frame of %d bytes: error %d", len(body), err)
	}
	return b
}

// frames returns the frames of bodies, one directly after another.
func frames(t *testing.T, bodies ...[]byte) []byte {
	t.Helper()
	var b []byte
	for _, body := range bodies {
		b = append(b, frame(t, body)...)
	}
	return b
}

// wantScan holds what Scan returns for b against the bodies of its first frames.
func wantScan(t *testing.T, what string, b []byte, bodies ...[]byte) {
	t.Helper()
	want := 0
	for _, body := range bodies {
		want += head + len(body)
	}
	got, n := record.Scan(b)
	if n != want {
		t.Fatalf("%s: %d bytes, want %d", what, n, want)
	}
	if !slices.EqualFunc(got, bodies, bytes.Equal) {
		t.Fatalf("%s: %d bodies %.80q, want %d: %.80q", what, len(got), got, len(bodies), bodies)
	}
}

// someBodies have lengths around all sizes that count in a frame.
func someBodies() [][]byte {
	c := newChance()
	return [][]byte{
		[]byte("a"), nil, []byte("123456789"), {}, {}, c.bytes(3), c.bytes(4), c.bytes(7), c.bytes(8), c.bytes(9),
		make([]byte, 8), make([]byte, 16), bytes.Repeat([]byte{0xFF}, 8), c.bytes(255), c.bytes(256), c.bytes(257), nil,
	}
}

func TestKnownFrames(t *testing.T) {
	for _, x := range []struct{ body, want string }{
		{"", "000000002144df1c"},
		{"a", "00000001e58c979261"},
		{"\x00", "00000001df39c65c00"},
		{"123456789", "00000009de9c40c0313233343536373839"},
		{"\x00\x00\x00\x00", "0000000490a279a900000000"},
		{"\xff\xff\xff\xff", "000000044e19594affffffff"},
	} {
		if got := hex.EncodeToString(frame(t, []byte(x.body))); got != x.want {
			t.Errorf("4.1: Frame(%q): %s, want %s", x.body, got, x.want)
		}
		b, _ := hex.DecodeString(x.want)
		wantScan(t, "4.2: Scan of "+x.want, b, []byte(x.body))
	}
	for _, body := range [][]byte{nil, {}, make([]byte, 0, 8), []byte("abc")[3:]} {
		if got := frame(t, body); hex.EncodeToString(got) != "000000002144df1c" {
			t.Errorf("4.1: Frame of no bytes: %x", got)
		}
	}
}

func TestFramesOfAllLengths(t *testing.T) {
	c := newChance()
	for length := range 700 {
		body := c.bytes(length)
		got := frame(t, body)
		if !bytes.Equal(got, wantFrame(body)) {
			t.Fatalf("4.1: Frame(%x): %x, want %x", body, got, wantFrame(body))
		}
		wantScan(t, "4.2: Scan of a frame", got, body)
	}
}

func TestLongBodies(t *testing.T) {
	c := newChance()
	for _, length := range []int{1<<16 - 1, 1 << 16, 1<<16 + 1, record.Most - 1, record.Most} {
		body := c.bytes(length)
		got := frame(t, body)
		if !bytes.Equal(got, wantFrame(body)) {
			t.Errorf("4.1: Frame of %d bytes is another", length)
		}
		wantScan(t, "4.2: Scan of a long frame and a short one", append(got, frame(t, []byte("z"))...), body, []byte("z"))
		wantScan(t, "4.2: Scan of a long frame without its last byte", got[:len(got)-1])
	}
}

func TestTooLongBodies(t *testing.T) {
	if record.Most != 1<<20 {
		t.Errorf("4.1: Most is %d", record.Most)
	}
	for _, length := range []int{record.Most + 1, record.Most + 2, record.Most + 256, 2 * record.Most, 1 << 24} {
		if b, err := record.Frame(make([]byte, length)); len(b) != 0 || err != api.ErrLimit {
			t.Errorf("4.1: Frame of %d bytes: %d bytes, error %d", length, len(b), err)
		}
	}
}

// No frame has more than Most bytes in its body, though its checksum is right.
func TestTooLongFrames(t *testing.T) {
	first := []byte("first")
	for _, length := range []int{record.Most + 1, record.Most + 2, 2 * record.Most} {
		long := wantFrame(make([]byte, length))
		wantScan(t, "4.2: Scan of a frame that is too long", long)
		wantScan(t, "4.2: Scan of a frame and one that is too long", append(frame(t, first), long...), first)
	}
}

func TestNoFrames(t *testing.T) {
	for _, b := range [][]byte{
		nil, {}, make([]byte, 0, 64), frame(t, nil)[:0], frame(t, []byte("abc"))[:0], {0}, make([]byte, 7),
		make([]byte, 8), make([]byte, 1000), bytes.Repeat([]byte{0xFF}, 7), bytes.Repeat([]byte{0xFF}, 8), bytes.Repeat([]byte{0xFF}, 1000),
		[]byte("these bytes are no frame"), frame(t, []byte("abc"))[1:],
	} {
		wantScan(t, "4.2: Scan of no frame", b)
	}
}

func TestSequences(t *testing.T) {
	bodies := someBodies()
	for n := range len(bodies) + 1 {
		wantScan(t, "4.2: Scan of several frames", frames(t, bodies[:n]...), bodies[:n]...)
	}
	many := make([][]byte, 20000)
	wantScan(t, "4.2: Scan of many frames of no bytes", frames(t, many...), many...)
}

// What a body has in it is not read as frames: not even frames are.
func TestFramesInFrames(t *testing.T) {
	inner := frames(t, someBodies()...)
	outer := frames(t, inner, frame(t, inner), nil)
	wantScan(t, "4.2: Scan of frames in frames", outer, inner, frame(t, inner), nil)
	bodies, _ := record.Scan(outer)
	wantScan(t, "4.2: Scan of a body", bodies[0], someBodies()...)
}

func TestEveryCut(t *testing.T) {
	bodies := someBodies()
	whole := frames(t, bodies...)
	complete, end := 0, head+len(bodies[0])
	for cut := range len(whole) + 1 {
		if cut == end {
			complete++
			if complete < len(bodies) {
				end += head + len(bodies[complete])
			}
		}
		wantScan(t, "4.3: Scan of a beginning", whole[:cut], bodies[:complete]...)
		wantScan(t, "4.3: Scan of a beginning of its own", bytes.Clone(whole[:cut]), bodies[:complete]...)
	}
	if complete != len(bodies) {
		t.Errorf("4.3: %d frames complete in all bytes, want %d", complete, len(bodies))
	}
}

// What follows the last frame hides none of those in front.
func TestWhatFollows(t *testing.T) {
	c := newChance()
	bodies := someBodies()
	whole := frames(t, bodies...)
	for length := range 100 {
		for _, more := range [][]byte{make([]byte, length), bytes.Repeat([]byte{0xFF}, length), c.bytes(length)} {
			wantScan(t, "4.2: Scan of frames and other bytes", slices.Concat(whole, more), bodies...)
		}
	}
}

func TestEveryTurnedByte(t *testing.T) {
	for _, body := range [][]byte{nil, {0}, []byte("abc"), newChance().bytes(20)} {
		whole := frames(t, body)
		for at := range whole {
			for turn := 1; turn < 256; turn++ {
				b := bytes.Clone(whole)
				b[at] ^= byte(turn)
				wantScan(t, "4.2: Scan of a frame with one byte turned", b)
			}
		}
	}
}

// After a damaged frame Scan looks for no other, and those in front of it stay.
func TestDamageInSequences(t *testing.T) {
	bodies := someBodies()
	whole := frames(t, bodies...)
	start := 0
	for n, body := range bodies {
		end := start + head + len(body)
		for at := start; at < end; at++ {
			for _, turn := range []byte{1, 0x80, 0xA5, 0xFF} {
				b := bytes.Clone(whole)
				b[at] ^= turn
				wantScan(t, "4.2: Scan of frames with one byte turned", b, bodies[:n]...)
			}
		}
		wantScan(t, "4.2: Scan of frames with a byte too many", slices.Insert(bytes.Clone(whole), start, 0x2A), bodies[:n]...)
		start = end
	}
}

// Changes within 32 bits never go unseen in a frame's checksum and body.
func TestNearDifferencesAreSeen(t *testing.T) {
	c := newChance()
	body := c.bytes(300)
	whole := frame(t, body)
	for range 3000 {
		b := bytes.Clone(whole)
		at := head + c.below(len(body)-3)
		turn := uint32(c.next()>>16) | 1
		binary.BigEndian.PutUint32(b[at:], binary.BigEndian.Uint32(b[at:])^turn)
		wantScan(t, "4.2: Scan of a frame with changes within 32 bits", b)
	}
}

// The checksum is right for the length and for what is there, but there is less than the length says.
func TestLengthsBeyondTheEnd(t *testing.T) {
	first := []byte("first")
	for _, body := range [][]byte{nil, []byte("a"), []byte("abcdefgh"), newChance().bytes(300)} {
		size := uint32(len(body))
		for _, length := range []uint32{
			size + 1, size + 2, size + 8, size + 256, record.Most, record.Most + 1, 1 << 24, 1<<31 - 9, 1<<31 - 8, 1<<31 - 1,
			1 << 31, 1<<31 + size, 1<<32 - 9, 1<<32 - 8, 1<<32 - 7, 1<<32 - 1,
		} {
			b := sealed(length, body)
			wantScan(t, "4.2: Scan of a length that says too much", b)
			wantScan(t, "4.2: Scan of a frame and a length that says too much", append(frame(t, first), b...), first)
		}
	}
}

// The checksum is right for the length and all bytes that follow, but the length says less.
func TestLengthsBeforeTheEnd(t *testing.T) {
	body := newChance().bytes(300)
	for length := range uint32(len(body)) {
		wantScan(t, "4.2: Scan of a length that says too little", sealed(length, body))
	}
}

// Each other place for the length, order of bytes or extent of the checksum makes no frame.
func TestOtherForms(t *testing.T) {
	body := []byte("123456789")
	right := wantFrame(body)
	size, sum := right[:4], right[4:8]
	turned := func(b []byte) []byte {
		b = bytes.Clone(b)
		slices.Reverse(b)
		return b
	}
	sumOf := func(b ...[]byte) []byte {
		return binary.BigEndian.AppendUint32(nil, crc32.ChecksumIEEE(slices.Concat(b...)))
	}
	for what, b := range map[string][]byte{
		"the length turned":             slices.Concat(turned(size), sum, body),
		"the checksum turned":           slices.Concat(size, turned(sum), body),
		"the checksum in front":         slices.Concat(sum, size, body),
		"the checksum behind":           slices.Concat(size, body, sum),
		"the checksum of the body only": slices.Concat(size, sumOf(body), body),
		"the checksum of body, length":  slices.Concat(size, sumOf(body, size), body),
		"the length only":               slices.Concat(size, sumOf(size), body),
		"no checksum":                   slices.Concat(size, body),
		"the checksum's bits inverted":  slices.Concat(size, binary.BigEndian.AppendUint32(nil, ^binary.BigEndian.Uint32(sum)), body),
	} {
		wantScan(t, "4.2: Scan of a frame with "+what, b)
	}
	wantScan(t, "4.2: Scan of the right form", right, body)
}

// modelScan is Scan in the document's own words: at each position, is what Frame returns for the bytes there?
func modelScan(b []byte) ([][]byte, int) {
	var bodies [][]byte
	at := 0
	for at+head <= len(b) {
		length := int64(binary.BigEndian.Uint32(b[at:]))
		if length > record.Most || length > int64(len(b)-at-head) {
			break
		}
		body := b[at+head : at+head+int(length)]
		if !bytes.HasPrefix(b[at:], wantFrame(body)) {
			break
		}
		bodies = append(bodies, body)
		at += head + int(length)
	}
	return bodies, at
}

// damaged returns a piece of memory of its own, with some bytes changed, inserted, taken away, or cut off at the end.
func damaged(c *chance, b []byte) []byte {
	b = bytes.Clone(b)
	for range c.below(3) {
		at := c.below(len(b) + 1)
		to := min(at+c.below(20), len(b))
		switch c.below(4) {
		case 0:
			copy(b[at:to], c.bytes(to-at))
		case 1:
			b = slices.Insert(b, at, c.bytes(c.below(20))...)
		case 2:
			b = slices.Delete(b, at, to)
		case 3:
			b = b[:at]
		}
	}
	return b
}

func TestAgainstModel(t *testing.T) {
	c := newChance()
	for range 4000 {
		var bodies [][]byte
		for range c.below(6) {
			bodies = append(bodies, c.bytes(c.below(1+c.below(40))))
		}
		b := damaged(c, frames(t, bodies...))
		want, n := modelScan(b)
		wantScan(t, "4.2: Scan of damaged frames", b, want...)
		// T2: of what remains, exactly the units with right checksums are restored.
		wantScan(t, "4.3: Scan of what Scan took", b[:n], want...)
		wantScan(t, "4.2: Scan of what Scan left", b[n:])
	}
}

func TestArgumentsStay(t *testing.T) {
	body := newChance().bytes(100)
	before := bytes.Clone(body)
	first, second := frame(t, body), frame(t, body)
	if !bytes.Equal(body, before) {
		t.Errorf("4.1: the body was changed")
	}
	if !bytes.Equal(first, second) {
		t.Errorf("4.1: the same body gave two frames")
	}
	clear(first)
	if !bytes.Equal(body, before) || !bytes.Equal(second, wantFrame(before)) {
		t.Errorf("4.1: a frame shares memory with the body or with another frame")
	}
	clear(body)
	if !bytes.Equal(second, wantFrame(before)) {
		t.Errorf("4.1: a frame shares memory with the body")
	}
}

func TestBodiesAreTheCallers(t *testing.T) {
	bodies := someBodies()
	whole := frames(t, bodies...)
	before := bytes.Clone(whole)
	first, _ := record.Scan(whole)
	for i, body := range first {
		clear(body)
		// What is appended must not reach another body, nor the argument.
		first[i] = append(body, 1, 2, 3, 4, 5, 6, 7, 8, 9)
	}
	if !bytes.Equal(whole, before) {
		t.Errorf("4.2: a body shares memory with the argument")
	}
	for i, body := range first {
		if want := append(make([]byte, len(bodies[i])), 1, 2, 3, 4, 5, 6, 7, 8, 9); !bytes.Equal(body, want) {
			t.Errorf("4.2: body %d shares memory with another: %x", i, body)
		}
	}
	second, _ := record.Scan(whole)
	clear(whole)
	if !slices.EqualFunc(second, bodies, bytes.Equal) {
		t.Errorf("4.2: the bodies change with the argument")
	}
}

// Only the bytes of the piece count, not what lies around it in memory.
func TestPieceOfMore(t *testing.T) {
	whole := []byte("..123456789..")
	if got := frame(t, whole[2:11]); !bytes.Equal(got, wantFrame([]byte("123456789"))) {
		t.Errorf("4.1: Frame of a piece of more: %x", got)
	}
	around := slices.Concat([]byte(".."), frames(t, []byte("a"), []byte("bc")))
	wantScan(t, "4.2: Scan of a piece of more", around[2:11], []byte("a"))
}

// A disk has room for so many of the shortest frames; the last one is damaged.
func TestFullDisk(t *testing.T) {
	b := bytes.Repeat(frame(t, nil), api.MaxDisk/head)
	b[len(b)-1]++
	bodies, n := record.Scan(b)
	if len(bodies) != api.MaxDisk/head-1 || n != len(b)-head {
		t.Errorf("4.2: Scan of a full disk: %d bodies, %d bytes", len(bodies), n)
	}
}
