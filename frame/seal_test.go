package frame_test

import (
	"bytes"
	"errors"
	"strings"
	"testing"

	"shutter/api"
	"shutter/frame"
	"shutter/mac"
)

// writtenOut is frames and their bytes.
var writtenOut = []struct {
	key   string
	frame api.Frame
	bytes string
}{
	{"", api.Frame{Dir: 0, Seq: 1}, "01000000000000000001" + "01d4025d18e53d0d0b14eff3190e70f0"},
	{"a key of the two sides", api.Frame{Dir: 0, Seq: 1}, "01000000000000000001" + "ba4c9f97869342a738184ac2aff3e8dc"},
	{"a key of the two sides", api.Frame{Dir: 1, Seq: 1}, "01010000000000000001" + "fb97a5c943317df5d01cf1e3c5906ad9"},
	{"a key of the two sides", api.Frame{Dir: 1, Seq: 258, Body: []byte("body")}, "01010000000000000102" + "626f6479" + "a905ae7b1b5ccd2c13d1d551e05c3f63"},
	{"a key of the two sides", api.Frame{Dir: 0, Seq: 0x0102030405060708, Body: []byte{0}}, "01000102030405060708" + "00" + "bd1d39cb9d80e04704e8a4fcde9d7c4f"},
	{"a key of the two sides", api.Frame{Dir: 0, Seq: 1 << 62, Body: []byte{0xff, 0}}, "01004000000000000000" + "ff00" + "e009f59079750a497650f65732aec8ea"},
	{strings.Repeat("k", 63), api.Frame{Dir: 1, Seq: 1 << 32, Body: []byte("63")}, "01010000000100000000" + "3633" + "66264592825d40aab0e5c833291599b1"},
	{strings.Repeat("k", 64), api.Frame{Dir: 1, Seq: 1 << 32, Body: []byte("64")}, "01010000000100000000" + "3634" + "c45d3a58e1de7b5ae5d3d1ada23573a9"},
	{strings.Repeat("k", 65), api.Frame{Dir: 1, Seq: 1 << 32, Body: []byte("65")}, "01010000000100000000" + "3635" + "8be19938c3ef5327f1e2331b409d9619"},
	{"k", api.Frame{Dir: 0, Seq: 1<<62 - 1, Body: []byte{1, 1}}, "01003fffffffffffffff" + "0101" + "d3f11a2913d6517dbc177f4d59bb266b"},
}

// P19.1: frames whose bytes are written out, the chapter's example among them.
func TestSealWrittenOut(t *testing.T) {
	for _, c := range writtenOut {
		got, err := frame.Seal([]byte(c.key), c.frame)
		checkError(t, c.bytes, err, 0)
		if !bytes.Equal(got, unhex(t, c.bytes)) {
			t.Errorf("%v: %x, not %s", c.frame, got, c.bytes)
		}
	}
	if b, err := frame.Seal(nil, api.Frame{Dir: api.ToHost, Seq: 1}); err != nil || len(b) != 26 {
		t.Errorf("%x, %v: not 26 bytes", b, err)
	}
}

// P19.1: the tag is chapter 2's, of all ahead of it: the version, the direction, the number and the body.
func TestTagIsOfAllAhead(t *testing.T) {
	for i, key := range secrets() {
		b, err := frame.Seal(key, api.Frame{Dir: i % 2, Seq: numbers[i], Body: some(i, i)})
		if err != nil || len(b) != 26+i {
			t.Fatalf("%d bytes, %v", len(b), err)
		}
		if tag := mac.Tag(key, b[:10+i]); !bytes.Equal(b[10+i:], tag[:]) {
			t.Errorf("the tag %x, not %x", b[10+i:], tag)
		}
	}
}

// P19.1: both directions with every number that may be, its highest byte first.
func TestSealNumbers(t *testing.T) {
	for _, key := range few() {
		for _, dir := range dirs {
			for i, seq := range numbers {
				checkSeal(t, key, api.Frame{Dir: dir, Seq: seq})
				checkSeal(t, key, api.Frame{Dir: dir, Seq: seq, Body: some(i, 5)})
			}
		}
	}
	for seq := 1; seq < 3000; seq++ {
		checkSeal(t, nil, api.Frame{Dir: seq % 2, Seq: seq})
	}
}

// P19.1: keys of every length about a block's, and of each other kind.
func TestSealKeys(t *testing.T) {
	list := secrets()
	for length := range 140 {
		list = append(list, some(length, 6), make([]byte, length))
	}
	for i, key := range list {
		for _, f := range []api.Frame{{Dir: 0, Seq: 1}, {Dir: 1, Seq: greatest, Body: []byte{0}}, {Dir: i % 2, Seq: i + 1, Body: some(i%487, 7)}} {
			checkSeal(t, key, f)
		}
	}
}

// P19.1: bodies of every length that may be, of nil and of no byte, of all kinds of bytes.
func TestSealBodies(t *testing.T) {
	for _, key := range few() {
		checkSeal(t, key, api.Frame{Dir: 1, Seq: 7, Body: nil})
		checkSeal(t, key, api.Frame{Dir: 1, Seq: 7, Body: []byte{}})
		for length := 0; length <= mostBody; length++ {
			checkSeal(t, key, api.Frame{Dir: length % 2, Seq: 1 + length, Body: some(length, 8)})
		}
		for _, length := range []int{1, 2, 16, 485, 486} {
			checkSeal(t, key, api.Frame{Dir: 0, Seq: 9, Body: make([]byte, length)})
			checkSeal(t, key, api.Frame{Dir: 1, Seq: 9, Body: bytes.Repeat([]byte{0xff}, length)})
		}
		for b := range 256 {
			checkSeal(t, key, api.Frame{Dir: 1, Seq: 10, Body: []byte{byte(b)}})
		}
	}
}

// P19.1: a frame of the longest body has the most bytes there are.
func TestLongestFrame(t *testing.T) {
	b, err := frame.Seal(some(32, 9), api.Frame{Dir: 1, Seq: 1, Body: some(486, 9)})
	if err != nil || len(b) != 512 {
		t.Errorf("%d bytes, %v", len(b), err)
	}
}

// refusedSeal holds an answer of Seal against an error, with each sort of key.
func refusedSeal(t *testing.T, f api.Frame, want error) {
	t.Helper()
	for _, key := range few() {
		b, err := frame.Seal(key, f)
		if len(b) != 0 || !errors.Is(err, want) {
			t.Fatalf("%d, %d, a body of %d: %d bytes, %v, not %v", f.Dir, f.Seq, len(f.Body), len(b), err, want)
		}
		checkSeal(t, key, f)
	}
}

// P19.1: ErrArg of another Dir, alone and with a longer body.
func TestSealOtherDir(t *testing.T) {
	list := noDirs
	for dir := -300; dir <= 600; dir++ {
		if dir != 0 && dir != 1 {
			list = append(list, dir)
		}
	}
	for _, dir := range list {
		for _, body := range [][]byte{nil, {0}, some(486, 1), some(487, 1), some(9000, 1)} {
			refusedSeal(t, api.Frame{Dir: dir, Seq: 1, Body: body}, api.ErrArg)
			refusedSeal(t, api.Frame{Dir: dir, Seq: greatest, Body: body}, api.ErrArg)
		}
	}
}

// P19.1: ErrArg of another Seq, alone, with a longer body, and with another Dir.
func TestSealOtherSeq(t *testing.T) {
	list := noNumbers
	for seq := -600; seq <= 0; seq++ {
		list = append(list, seq)
	}
	for _, seq := range list {
		for _, body := range [][]byte{nil, {0}, some(486, 1), some(487, 1), some(9000, 1)} {
			for _, dir := range []int{0, 1, 2, -1, 256} {
				refusedSeal(t, api.Frame{Dir: dir, Seq: seq, Body: body}, api.ErrArg)
			}
		}
	}
}

// P19.1: ErrLong of a longer body, from one byte more on.
func TestSealLongerBody(t *testing.T) {
	for _, length := range []int{487, 488, 495, 496, 511, 512, 513, 600, 742, 998, 1024, 8192, 65535, 65536, 66022, 1 << 20} {
		for _, dir := range dirs {
			for _, seq := range []int{1, 258, greatest} {
				refusedSeal(t, api.Frame{Dir: dir, Seq: seq, Body: make([]byte, length)}, api.ErrLong)
			}
		}
	}
}
