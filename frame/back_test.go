package frame_test

import (
	"bytes"
	"testing"

	"shutter/api"
	"shutter/frame"
)

// checkBack seals a frame, opens it, and seals it again.
func checkBack(t *testing.T, key []byte, f api.Frame) {
	t.Helper()
	b, err := frame.Seal(key, f)
	checkError(t, "there", err, 0)
	g, err := frame.Open(key, f.Dir, b)
	checkError(t, "back", err, 0)
	if !same(f, g) {
		t.Fatalf("%v, not %v", g, f)
	}
	again, err := frame.Seal(key, g)
	checkError(t, "there again", err, 0)
	if !bytes.Equal(again, b) {
		t.Fatalf("%v: %x, not %x", f, again, b)
	}
}

// P19.3: what is sealed is opened as it was: with every number and each kind of key.
func TestSealedIsOpened(t *testing.T) {
	for i, key := range secrets() {
		for j, seq := range numbers {
			checkBack(t, key, api.Frame{Dir: (i + j) % 2, Seq: seq, Body: some((i*j)%487, j)})
		}
	}
	for length := 0; length <= mostBody; length++ {
		checkBack(t, some(length, 1), api.Frame{Dir: length % 2, Seq: greatest - length, Body: some(length, 2)})
		checkBack(t, some(length, 1), api.Frame{Dir: length % 2, Seq: 1 + length, Body: make([]byte, length)})
	}
}

// P19.3: what is opened is sealed as it stood: of all bytes of a length with a right tag, those that are opened at all.
func TestOpenedIsSealed(t *testing.T) {
	key := some(33, 3)
	count := 0
	for version := range 3 {
		for dir := range 4 {
			for _, seq := range append(numbers, noNumbers...) {
				b := tagged(key, headed(byte(version), byte(dir), uint64(seq), some(seq&7, 4)))
				f, err := frame.Open(key, dir, b)
				if err != nil {
					continue
				}
				count++
				again, err := frame.Seal(key, f)
				checkError(t, "sealed again", err, 0)
				if !bytes.Equal(again, b) {
					t.Fatalf("%x, not %x", again, b)
				}
			}
		}
	}
	if count != 2*len(numbers) {
		t.Errorf("%d were opened, not %d", count, 2*len(numbers))
	}
}

// P19.3: two frames that aren't alike have other bytes, and each other key makes other ones.
func TestBytesTellTheFrame(t *testing.T) {
	seen := map[string]bool{}
	list := []api.Frame{{Seq: 1}, {Dir: 1, Seq: 1}, {Seq: 256}, {Seq: 1 << 56}, {Seq: 1, Body: []byte{0}}, {Seq: 1, Body: []byte{0, 0}}, {Seq: 1, Body: []byte{1}}}
	for _, key := range [][]byte{nil, {1}, some(64, 1), some(65, 1), some(66, 1)} {
		for _, f := range list {
			b, err := frame.Seal(key, f)
			checkError(t, "a frame", err, 0)
			if seen[string(b)] {
				t.Errorf("%v: the bytes %x again", f, b)
			}
			seen[string(b)] = true
		}
	}
}
