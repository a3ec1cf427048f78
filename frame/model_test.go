package frame_test

import (
	"bytes"
	"crypto/hmac"
	"crypto/sha256"
	"encoding/binary"
	"encoding/hex"
	"errors"
	"math"
	"testing"

	"shutter/api"
	"shutter/frame"
)

// The document's numbers: of bytes of a datagram, of those that aren't its body, of its body, of its tag; and the greatest number that a datagram has.
const (
	most     = 512
	overhead = 26
	mostBody = 486
	tagSize  = 16
	greatest = 1 << 62
)

// half is a number none of whose lower 32 bits are set.
const half = 1 << 32

// numbers is what a datagram's number may be: the smallest, the greatest, those beside, each byte alone, each bit alone, all bytes others.
var numbers = rightNumbers()

func rightNumbers() []int {
	list := []int{1, 2, 3, 127, 128, 129, 254, 255, 256, 257, 258, 511, 512, 65535, 65536, 65537, half - 1, half, half + 1, greatest - 256, greatest - 255, greatest - 2, greatest - 1, greatest, 0x0102030405060708, 0x3ffefdfcfbfaf9f8}
	for shift := 0; shift <= 62; shift++ {
		list = append(list, 1<<shift)
	}
	for shift := 0; shift < 56; shift += 8 {
		list = append(list, 0x80<<shift, 0xff<<shift, 0x5a<<shift)
	}
	return append(list, 0x3f<<56, 0x21<<56)
}

// noNumbers is what it may not be: 0, those above, those below, the smallest and the greatest there are, and those whose lower bits are one's.
var noNumbers = []int{0, -1, -2, -3, -128, -255, -256, -257, -258, -65536, -half, -half + 1, -half + 5, -greatest - 1, -greatest, -greatest + 1, -greatest + 5,
	greatest + 1, greatest + 2, greatest + 255, greatest + 256, greatest + half, greatest + greatest/2, math.MaxInt - 1, math.MaxInt, math.MinInt, math.MinInt + 1, math.MinInt + 5, math.MinInt + greatest}

// dirs is the directions.
var dirs = []int{0, 1}

// noDirs is numbers that are none: those beside, those whose lower bits are one's, other bytes, the smallest and the greatest.
var noDirs = []int{-1, -2, 2, 3, 4, 127, 128, 254, 255, 256, 257, 258, 512, 513, -255, -256, -257, 65536, 65537, half, half + 1, -half, -half + 1, math.MaxInt, math.MaxInt - 1, math.MinInt, math.MinInt + 1}

// some is bytes without a zero, that are others for another seed.
func some(length, seed int) []byte {
	b := make([]byte, 0, length)
	for i := range length {
		b = append(b, byte(1+(i*i+3*i+11*seed)%251))
	}
	return b
}

// secrets is keys of many kinds: of no byte, short ones, those about a block's end, far longer ones, of zeros and of ff.
func secrets() [][]byte {
	list := [][]byte{nil, {}, {0}, {0xff}, []byte("a key of the two sides"), make([]byte, 64), make([]byte, 65), bytes.Repeat([]byte{0xff}, 64)}
	for i, length := range []int{1, 2, 15, 16, 31, 32, 33, 62, 63, 64, 65, 66, 127, 128, 129, 500, 5000} {
		list = append(list, some(length, 40+i))
	}
	return list
}

// few is keys of each sort of length.
func few() [][]byte { return [][]byte{nil, some(20, 1), some(64, 2), some(65, 3)} }

// tagged is bytes with the right tag behind them, by the library.
func tagged(key []byte, b []byte) []byte {
	m := hmac.New(sha256.New, key)
	m.Write(b)
	return append(bytes.Clone(b), m.Sum(nil)[:tagSize]...)
}

// headed is what stands ahead of a tag: any version, direction, number and body.
func headed(version, dir byte, seq uint64, body []byte) []byte {
	b := binary.BigEndian.AppendUint64([]byte{version, dir}, seq)
	return append(b, body...)
}

// sealed is what Seal answers, by the document's words; 0 is no error.
func sealed(key []byte, f api.Frame) ([]byte, api.Errno) {
	switch {
	case f.Dir != 0 && f.Dir != 1, f.Seq < 1, f.Seq > greatest:
		return nil, api.ErrArg
	case len(f.Body) > mostBody:
		return nil, api.ErrLong
	}
	return tagged(key, headed(1, byte(f.Dir), uint64(f.Seq), f.Body)), 0
}

// opened is what Open answers, by the document's words; 0 is no error.
func opened(key []byte, dir int, b []byte) (api.Frame, api.Errno) {
	if len(b) < overhead {
		return api.Frame{}, api.ErrCut
	}
	if len(b) > most {
		return api.Frame{}, api.ErrLong
	}
	head := b[:len(b)-tagSize]
	seq := binary.BigEndian.Uint64(b[2:10])
	switch {
	case !bytes.Equal(b, tagged(key, head)):
		return api.Frame{}, api.ErrTag
	case b[0] != 1, int(b[1]) != dir:
		return api.Frame{}, api.ErrSide
	case seq == 0, seq > greatest, dir > 1:
		return api.Frame{}, api.ErrArg
	}
	return api.Frame{Dir: dir, Seq: int(seq), Body: bytes.Clone(head[10:])}, 0
}

// same tells whether two frames are alike; nil and empty bodies are one.
func same(a, b api.Frame) bool {
	return a.Dir == b.Dir && a.Seq == b.Seq && bytes.Equal(a.Body, b.Body)
}

// checkError holds an error against a number: it is that one alone, without a place.
func checkError(t *testing.T, what string, got error, want api.Errno) {
	t.Helper()
	if want == 0 {
		if got != nil {
			t.Fatalf("%s: the error %v", what, got)
		}
		return
	}
	var spot *api.Spot
	if got == nil || errors.As(got, &spot) || api.Where(got) != -1 || api.Code(got) != int(want) {
		t.Fatalf("%s: the error %v, not %v", what, got, want)
	}
	for n := api.ErrArg; n <= api.ErrNone; n++ {
		if errors.Is(got, n) != (n == want) {
			t.Fatalf("%s: the error %v, and also %v", what, got, n)
		}
	}
}

// checkSeal holds Seal against what the document asks for.
func checkSeal(t *testing.T, key []byte, f api.Frame) {
	t.Helper()
	want, code := sealed(key, f)
	got, err := frame.Seal(key, f)
	what := "a frame with " + hex.EncodeToString(headed(1, byte(f.Dir), uint64(f.Seq), nil))
	checkError(t, what, err, code)
	if !bytes.Equal(got, want) {
		t.Fatalf("%d, %d, a body of %d: %x, not %x", f.Dir, f.Seq, len(f.Body), got, want)
	}
}

// checkOpen holds Open against what the document asks for.
func checkOpen(t *testing.T, key []byte, dir int, b []byte) {
	t.Helper()
	want, code := opened(key, dir, b)
	checkOpened(t, key, dir, b, want, code)
}

// checkOpened holds Open against an answer.
func checkOpened(t *testing.T, key []byte, dir int, b []byte, want api.Frame, code api.Errno) {
	t.Helper()
	got, err := frame.Open(key, dir, b)
	what := "bytes that begin with " + hex.EncodeToString(b[:min(len(b), 60)])
	checkError(t, what, err, code)
	if !same(got, want) || code != 0 && len(got.Body) != 0 {
		t.Fatalf("%d, %x: %v, not %v", dir, b, got, want)
	}
}

// unhex is the bytes that digits tell.
func unhex(t *testing.T, digits string) []byte {
	t.Helper()
	b, err := hex.DecodeString(digits)
	if err != nil {
		t.Fatal(err)
	}
	return b
}

// apart tells whether no two lists share any memory, the room behind them among it.
func apart(lists [][]byte) bool {
	seen := map[*byte]bool{}
	for _, l := range lists {
		l = l[:cap(l)]
		for i := range l {
			if seen[&l[i]] {
				return false
			}
			seen[&l[i]] = true
		}
	}
	return true
}
