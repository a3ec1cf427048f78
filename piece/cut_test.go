package piece_test

import (
	"bytes"
	"testing"

	"shutter/api"
	"shutter/piece"
)

// sized is a piece that is asked for: its number, how many bytes it has, whether it is the last one.
type sized struct {
	num, length int
	last        bool
}

// cuts is lengths at all edges, and the pieces of a message of that length, written out.
var cuts = []struct {
	length int
	pieces []sized
}{
	{1, []sized{{1, 1, true}}},
	{2, []sized{{1, 2, true}}},
	{63, []sized{{1, 63, true}}},
	{64, []sized{{1, 64, true}}},
	{65, []sized{{1, 64, false}, {2, 1, true}}},
	{66, []sized{{1, 64, false}, {2, 2, true}}},
	{127, []sized{{1, 64, false}, {2, 63, true}}},
	{128, []sized{{1, 64, false}, {2, 64, true}}},
	{129, []sized{{1, 64, false}, {2, 64, false}, {3, 1, true}}},
	{192, []sized{{1, 64, false}, {2, 64, false}, {3, 64, true}}},
	{193, []sized{{1, 64, false}, {2, 64, false}, {3, 64, false}, {4, 1, true}}},
}

// P22.1: the pieces of short messages, written out.
func TestCutWrittenOut(t *testing.T) {
	for _, c := range cuts {
		for _, msg := range lists(c.length) {
			got := checkCut(t, msg)
			if len(got) != len(c.pieces) {
				t.Fatalf("%d bytes: %d pieces, not %d", c.length, len(got), len(c.pieces))
			}
			left := msg
			for i, p := range got {
				want := c.pieces[i]
				if p.Ack != 0 || p.Num != want.num || p.Last != want.last || !bytes.Equal(p.Data, left[:want.length]) {
					t.Fatalf("%d bytes: %s, not %v", c.length, told(p), want)
				}
				left = left[want.length:]
			}
		}
	}
	got, err := piece.Cut([]byte{7})
	if err != nil || !allAlike(got, []api.Pack{{Num: 1, Last: true, Data: []byte{7}}}) {
		t.Errorf("%v, %v", got, err)
	}
}

// P22.1: messages of each length that there may be.
func TestCutEachLength(t *testing.T) {
	whole := some(mostMessage, 1)
	for length := 1; length <= mostMessage; length++ {
		got := checkCut(t, whole[:length])
		if want := (length + 63) / 64; len(got) != want {
			t.Fatalf("%d bytes: %d pieces, not %d", length, len(got), want)
		}
	}
}

// P22.1: the longest messages: 128 pieces, of which the last one has 63 or 64 bytes.
func TestCutLongest(t *testing.T) {
	for _, length := range []int{8127, 8128, 8129, 8190, mostMessage - 1, mostMessage} {
		for _, msg := range lists(length) {
			got := checkCut(t, msg)
			end := got[len(got)-1]
			if want := (length + 63) / 64; len(got) != want || end.Num != want || !end.Last || len(end.Data) != length-64*(want-1) {
				t.Fatalf("%d bytes: %d pieces, at the end %s", length, len(got), told(end))
			}
		}
	}
}

// P22.1: each byte is a message, too, and may stand at each place of one.
func TestCutEachByte(t *testing.T) {
	for c := range 256 {
		checkCut(t, []byte{byte(c)})
		for _, at := range []int{0, 1, 62, 63, 64, 65, 127, 128, 129} {
			msg := some(130, c)
			msg[at] = byte(c)
			checkCut(t, msg)
		}
	}
}

// P22.1: nothing and ErrCut of no bytes.
func TestCutOfNothing(t *testing.T) {
	for _, msg := range [][]byte{nil, {}, some(100, 1)[:0], some(9000, 1)[9000:]} {
		if got, err := piece.Cut(msg); len(got) != 0 || !isError(err, api.ErrCut) {
			t.Errorf("%v, %v", got, err)
		}
	}
}

// P22.1: nothing and ErrLong of more bytes than there may be: by one, by a piece, by far.
func TestCutTooLong(t *testing.T) {
	for _, length := range []int{mostMessage + 1, mostMessage + 2, mostMessage + 63, mostMessage + 64, mostMessage + 65, 2 * mostMessage, 12800, 12801, 65535, 65536, 65537, 65536 + 64, 1 << 20, 1<<24 + 1} {
		for _, msg := range lists(length) {
			if got, err := piece.Cut(msg); len(got) != 0 || !isError(err, api.ErrLong) {
				t.Errorf("%d bytes: %d pieces, %v", length, len(got), err)
			}
		}
	}
}
