package piece_test

import (
	"bytes"
	"encoding/binary"
	"encoding/hex"
	"errors"
	"fmt"
	"math"
	"testing"

	"shutter/api"
	"shutter/piece"
)

// The document's numbers: bytes of a message and of a piece at most, bytes ahead of a pack's Data, the greatest number that a pack has.
const (
	mostMessage = 8192
	mostData    = 64
	head        = 9
	greatest    = 1<<31 - 1
)

// numbers is what Ack and Num may be, but 0: the smallest, the greatest, those beside, each byte alone, each bit alone, all bytes others.
var numbers = rightNumbers()

func rightNumbers() []int {
	list := []int{1, 2, 3, 127, 128, 129, 200, 254, 255, 256, 257, 258, 511, 512, 65535, 65536, 65537, 1<<24 - 1, 1<<24 + 1, greatest - 256, greatest - 255, greatest - 1, greatest, 0x01020304, 0x7ffefdfc}
	for shift := range 31 {
		list = append(list, 1<<shift)
	}
	for shift := 0; shift < 24; shift += 8 {
		list = append(list, 0x80<<shift, 0xff<<shift, 0x5a<<shift)
	}
	return append(list, 0x7f<<24, 0x21<<24)
}

// noNumbers is what they may not be: those below 0 and those above, the smallest and the greatest there are, and those whose lower bits are one's.
var noNumbers = []int{-1, -2, -3, -128, -255, -256, -65536, -greatest - 1, -greatest, -greatest + 1, -greatest - 2, -1 << 32, -1<<32 + 1, -1<<32 + 5, -1<<32 - 1,
	1 << 31, 1<<31 + 1, 1<<31 + 5, 1<<32 - 1, 1 << 32, 1<<32 + 1, 1<<32 + 5, 1<<33 + 1, 1<<40 + 1, 1 << 62, math.MaxInt - 1, math.MaxInt, math.MinInt, math.MinInt + 1, math.MinInt + 5}

// some is bytes without a zero, that are others for another seed.
func some(length, seed int) []byte {
	b := make([]byte, 0, length)
	for i := range length {
		b = append(b, byte(1+(i*i+3*i+11*seed)%251))
	}
	return b
}

// chance is numbers of no rule, but the same in every run.
type chance uint64

// below is the next one, from 0 up to n.
func (c *chance) below(n int) int {
	*c = *c*6364136223846793005 + 1442695040888963407
	return int(uint64(*c)>>11) % n
}

// bytes is that many bytes of no rule.
func (c *chance) bytes(length int) []byte {
	b := make([]byte, length)
	for i := range b {
		b[i] = byte(c.below(256))
	}
	return b
}

// lists is bytes of a length of each sort: others at each place, zeros, ff.
func lists(length int) [][]byte {
	return [][]byte{some(length, length), make([]byte, length), bytes.Repeat([]byte{0xff}, length)}
}

// pieces is what Cut answers, by the document's words: byte by byte to a piece that isn't full; 0 is no error.
func pieces(msg []byte) ([]api.Pack, api.Errno) {
	switch {
	case len(msg) == 0:
		return nil, api.ErrCut
	case len(msg) > mostMessage:
		return nil, api.ErrLong
	}
	list := []api.Pack{{Num: 1}}
	for _, c := range msg {
		if len(list[len(list)-1].Data) == mostData {
			list = append(list, api.Pack{Num: list[len(list)-1].Num + 1})
		}
		end := &list[len(list)-1]
		end.Data = append(end.Data, c)
	}
	list[len(list)-1].Last = true
	return list, 0
}

// may tells whether a pack may be, by the document's words.
func may(p api.Pack) bool {
	switch n := len(p.Data); {
	case p.Ack < 0, p.Ack > greatest, p.Num < 0, p.Num > greatest:
		return false
	case p.Num == 0:
		return !p.Last && n == 0
	case n == 0, n > mostData:
		return false
	default:
		return p.Last || n == mostData
	}
}

// laid is any bytes of a pack's shape, whether it may be or not.
func laid(ack, num uint32, ninth byte, data []byte) []byte {
	b := binary.BigEndian.AppendUint32(nil, ack)
	b = binary.BigEndian.AppendUint32(b, num)
	return append(append(b, ninth), data...)
}

// written is what Write answers, by the document's words; 0 is no error.
func written(p api.Pack) ([]byte, api.Errno) {
	if !may(p) {
		return nil, api.ErrArg
	}
	ninth := byte(0)
	if p.Last {
		ninth = 1
	}
	return laid(uint32(p.Ack), uint32(p.Num), ninth, p.Data), 0
}

// readAs is what Read answers, by the document's words; 0 is no error.
func readAs(b []byte) (api.Pack, api.Errno) {
	switch {
	case len(b) < head:
		return api.Pack{}, api.ErrCut
	case b[8] != 0 && b[8] != 1:
		return api.Pack{}, api.ErrByte
	}
	p := api.Pack{Ack: int(binary.BigEndian.Uint32(b)), Num: int(binary.BigEndian.Uint32(b[4:])), Last: b[8] == 1, Data: b[9:]}
	if !may(p) {
		return api.Pack{}, api.ErrArg
	}
	return p, 0
}

// alike tells whether two packs are alike; nil and empty Data are one.
func alike(a, b api.Pack) bool {
	return a.Ack == b.Ack && a.Num == b.Num && a.Last == b.Last && bytes.Equal(a.Data, b.Data)
}

// allAlike tells whether two lists of packs are alike.
func allAlike(a, b []api.Pack) bool {
	if len(a) != len(b) {
		return false
	}
	for i := range a {
		if !alike(a[i], b[i]) {
			return false
		}
	}
	return true
}

// copied is packs like those, in memory of their own.
func copied(list []api.Pack) []api.Pack {
	others := []api.Pack{}
	for _, p := range list {
		p.Data = bytes.Clone(p.Data)
		others = append(others, p)
	}
	return others
}

// isError tells whether an error is that number alone, without a place; 0 is no error.
func isError(got error, want api.Errno) bool {
	if want == 0 || got == nil {
		return want == 0 && got == nil
	}
	var spot *api.Spot
	if errors.As(got, &spot) || api.Where(got) != -1 || api.Code(got) != int(want) {
		return false
	}
	for n := api.ErrArg; n <= api.ErrNone; n++ {
		if errors.Is(got, n) != (n == want) {
			return false
		}
	}
	return true
}

// told is a pack, shortly, as its Data may be great ones.
func told(p api.Pack) string {
	return fmt.Sprintf("{%d %d %v, %d: %s}", p.Ack, p.Num, p.Last, len(p.Data), begins(p.Data))
}

// begins is how bytes begin.
func begins(b []byte) string { return hex.EncodeToString(b[:min(len(b), 20)]) }

// checkCut holds Cut against what the document asks for.
func checkCut(t *testing.T, msg []byte) []api.Pack {
	t.Helper()
	want, code := pieces(msg)
	got, err := piece.Cut(msg)
	if !isError(err, code) {
		t.Fatalf("%d bytes: the error %v, not %v", len(msg), err, code)
	}
	if !allAlike(got, want) {
		t.Fatalf("%d bytes: %d pieces, not %d, or other ones: %v", len(msg), len(got), len(want), got)
	}
	return got
}

// checkWrite holds Write against what the document asks for.
func checkWrite(t *testing.T, p api.Pack) {
	t.Helper()
	want, code := written(p)
	checkWritten(t, p, want, code)
}

// checkWritten holds Write against an answer.
func checkWritten(t *testing.T, p api.Pack, want []byte, code api.Errno) {
	t.Helper()
	got, err := piece.Write(p)
	if !isError(err, code) {
		t.Fatalf("%s: the error %v, not %v", told(p), err, code)
	}
	if !bytes.Equal(got, want) {
		t.Fatalf("%s: %x, not %x", told(p), got, want)
	}
}

// checkRead holds Read against what the document asks for.
func checkRead(t *testing.T, b []byte) {
	t.Helper()
	want, code := readAs(b)
	checkAnswer(t, b, want, code)
}

// checkAnswer holds Read against an answer.
func checkAnswer(t *testing.T, b []byte, want api.Pack, code api.Errno) {
	t.Helper()
	got, err := piece.Read(b)
	if !isError(err, code) {
		t.Fatalf("%d bytes, %s: the error %v, not %v", len(b), begins(b), err, code)
	}
	if !alike(got, want) {
		t.Fatalf("%d bytes, %s: %s, not %s", len(b), begins(b), told(got), told(want))
	}
}

// unhex is the bytes that digits tell.
func unhex(t *testing.T, digits string) []byte {
	t.Helper()
	b, err := hex.DecodeString(digits)
	if err != nil {
		t.Fatal(err)
	}
	return b
}
