package input_test

import (
	"encoding/hex"
	"errors"
	"math"
	"math/bits"
	"slices"
	"testing"

	"shutter/api"
	"shutter/input"
)

// graphics is the graphic bytes, by their numbers: read by the library, not by the layers below.
var graphics = func() []byte {
	b, err := hex.DecodeString(api.Graphic)
	if err != nil || len(b) != 64 {
		panic("no graphic bytes")
	}
	return b
}()

// edges is the sizes at which an address's writing begins and ends.
var edges = []int{1, 4096, 4097, 16383}

// sizes is the edges, and some between.
var sizes = append(slices.Clone(edges), 2, 20, 80, 1920, 4095, 4098, 8000, 16382)

// bares and tellers are the keys that ask: those that tell no fields, and the others.
var (
	bares   = []byte{0x6d, 0x6c, 0x6e, 0x6b}
	tellers = []byte{0x7d, 0xf1, 0xf2, 0xf3, 0xf4, 0xf5, 0xf6, 0xf7, 0xf8, 0xf9, 0x7a, 0x7b, 0x7c}
)

// half is a number none of whose lower bits are set.
const half = 1 << (bits.UintSize / 2)

// none is a place that there isn't: of an error that is told alone.
const none = -1

// isBare and isTeller tell the kinds of keys that ask by the document's words.
func isBare(b byte) bool   { return slices.Contains(bares, b) }
func isTeller(b byte) bool { return slices.Contains(tellers, b) }

// isLetter tells the letters by the document's words.
func isLetter(b byte) bool { return b >= 0x40 && b <= 0xfe || b == 0x1c || b == 0x1e }

// noCells is numbers that are no cell of a size, but -1: near by, far outside, and those whose lower bits are one.
func noCells(size int) []int {
	list := []int{size, size + 1, -2, -size - 1, size + 255, size + 4096, 16384, 65536, -65536, 65535, half, -half, half + size - 1, math.MaxInt32, math.MinInt32, math.MinInt, math.MinInt + 1, math.MaxInt - 1, math.MaxInt}
	for _, a := range []int{0, size / 2, size - 1} {
		list = append(list, a+16384, a+65536, a-65536, a+half, a-half, math.MinInt+a, -a-2)
	}
	return list
}

// place is an address's bytes by the document's words.
func place(a, size int) []byte {
	if size <= 4096 {
		return []byte{graphics[a/64], graphics[a%64]}
	}
	return []byte{byte(a / 256), byte(a % 256)}
}

// cell is the address with which b begins, or an error's number, by the document's words.
func cell(b []byte, size int) (int, api.Errno) {
	if len(b) < 2 {
		return 0, api.ErrCut
	}
	a, wrong := int(b[0])*256+int(b[1]), b[0] >= 64
	if size <= 4096 {
		high, low := slices.Index(graphics, b[0]), slices.Index(graphics, b[1])
		a, wrong = high*64+low, high < 0 || low < 0
	}
	switch {
	case wrong:
		return 0, api.ErrByte
	case a >= size:
		return 0, api.ErrAddr
	}
	return a, 0
}

// allLetters is every letter, once.
var allLetters = func() []byte {
	var list []byte
	for i := range 256 {
		if isLetter(byte(i)) {
			list = append(list, byte(i))
		}
	}
	return list
}()

// sample is a right field, and its bytes.
type sample struct {
	f api.Entry
	b []byte
}

// with is a field that has an address, and its bytes.
func with(a int, text []byte, size int) sample {
	return sample{api.Entry{Addr: a, Text: text}, slices.Concat([]byte{0x11}, place(a, size), text)}
}

// rights is right fields that have addresses, for a size.
func rights(size int) []sample {
	var list []sample
	for _, a := range []int{0, size / 2, size - 1} {
		for _, text := range [][]byte{nil, {0x40}, {}, {0xc1, 0x40}, {0x1c, 0x1e, 0xfe}, {0x7d, 0x6d, 0x40, 0x40}, {0xc1}} {
			list = append(list, with(a, text, size))
		}
	}
	return append(list, with(size-1, allLetters, size))
}

// wrong is a field that isn't right, and what is wrong with it.
type wrong struct {
	f    api.Entry
	code api.Errno
}

// wrongs is fields that aren't right for a size, beside others or alone.
func wrongs(size int) []wrong {
	list := []wrong{
		{api.Entry{Addr: size}, api.ErrAddr},
		{api.Entry{Addr: size, Text: []byte{0xc1}}, api.ErrAddr},
		{api.Entry{Addr: size, Text: []byte{0}}, api.ErrAddr},
		{api.Entry{Addr: -2}, api.ErrAddr},
		{api.Entry{Addr: -2, Text: []byte{0xc1, 0x11}}, api.ErrAddr},
		{api.Entry{Addr: math.MinInt, Text: []byte{0xc1}}, api.ErrAddr},
		{api.Entry{Addr: math.MaxInt, Text: []byte{0xff}}, api.ErrAddr},
		{api.Entry{Addr: half}, api.ErrAddr},
	}
	for _, text := range [][]byte{{0}, {0x11}, {0xff}, {0x3f, 0xc1}, {0xc1, 0x1d}, {0xc1, 0, 0xc2}, {0xc1, 0x40, 0x1b}, {0x40, 0x1f, 0}} {
		list = append(list, wrong{api.Entry{Addr: 0, Text: text}, api.ErrByte}, wrong{api.Entry{Addr: size - 1, Text: text}, api.ErrByte})
	}
	return list
}

// strays is fields without an address, which aren't right beside others.
func strays() []wrong {
	return []wrong{
		{api.Entry{Addr: -1}, api.ErrAddr},
		{api.Entry{Addr: -1, Text: []byte{}}, api.ErrAddr},
		{api.Entry{Addr: -1, Text: []byte{0xc1, 0x40}}, api.ErrAddr},
		{api.Entry{Addr: -1, Text: []byte{0xc1, 0}}, api.ErrAddr},
	}
}

// submission is a submission with these fields, and its bytes.
func submission(aid byte, cursor int, list []sample, size int) (api.In, []byte) {
	in := api.In{Aid: aid, Cursor: cursor}
	b := slices.Concat([]byte{aid}, place(cursor, size))
	for _, x := range list {
		in.Fields = append(in.Fields, x.f)
		b = append(b, x.b...)
	}
	return in, b
}

// answer is what a call shall answer: a submission; or an error's number and its place.
type answer struct {
	in   api.In
	code api.Errno
	at   int
}

// right is what Right shall answer of a submission, by the document's words.
func right(in api.In, size int) answer {
	switch {
	case !isBare(in.Aid) && !isTeller(in.Aid):
		return answer{code: api.ErrByte, at: none}
	case isBare(in.Aid) && (in.Cursor != 0 || len(in.Fields) != 0):
		return answer{code: api.ErrArg, at: none}
	case isBare(in.Aid):
		return answer{}
	case in.Cursor < 0 || in.Cursor >= size:
		return answer{code: api.ErrAddr, at: none}
	}
	for i, f := range in.Fields {
		free := f.Addr == -1 && len(in.Fields) == 1
		switch {
		case (f.Addr < 0 || f.Addr >= size) && !free:
			return answer{code: api.ErrAddr, at: i}
		case slices.ContainsFunc(f.Text, func(b byte) bool { return !isLetter(b) }):
			return answer{code: api.ErrByte, at: i}
		case free && len(f.Text) == 0:
			return answer{code: api.ErrArg, at: i}
		}
	}
	return answer{}
}

// written is a right submission's bytes, however many, by the document's words.
func written(in api.In, size int) []byte {
	if isBare(in.Aid) {
		return []byte{in.Aid}
	}
	b := slices.Concat([]byte{in.Aid}, place(in.Cursor, size))
	for _, f := range in.Fields {
		if f.Addr >= 0 {
			b = slices.Concat(b, []byte{0x11}, place(f.Addr, size))
		}
		b = append(b, f.Text...)
	}
	return b
}

// letters is how many letters b begins with.
func letters(b []byte) int {
	n := slices.IndexFunc(b, func(x byte) bool { return !isLetter(x) })
	if n < 0 {
		return len(b)
	}
	return n
}

// read is the submission whose bytes these are, by the document's words.
func read(b []byte, size int) answer {
	switch {
	case len(b) > 8192:
		return answer{code: api.ErrLong, at: 8192}
	case len(b) == 0:
		return answer{code: api.ErrCut}
	case !isBare(b[0]) && !isTeller(b[0]):
		return answer{code: api.ErrByte}
	case isBare(b[0]) && len(b) > 1:
		return answer{code: api.ErrArg, at: 1}
	case isBare(b[0]):
		return answer{in: api.In{Aid: b[0]}}
	}
	cursor, code := cell(b[1:], size)
	if code != 0 {
		return answer{code: code, at: 1}
	}
	in := api.In{Aid: b[0], Cursor: cursor}
	if n := letters(b[3:]); n > 0 {
		if 3+n < len(b) {
			return answer{code: api.ErrByte, at: 3 + n}
		}
		in.Fields = []api.Entry{{Addr: -1, Text: b[3:]}}
		return answer{in: in}
	}
	for at := 3; at < len(b); {
		if b[at] != 0x11 {
			return answer{code: api.ErrByte, at: at}
		}
		a, code := cell(b[at+1:], size)
		if code != 0 {
			return answer{code: code, at: at + 1}
		}
		n := letters(b[at+3:])
		in.Fields = append(in.Fields, api.Entry{Addr: a, Text: b[at+3 : at+3+n]})
		at += 3 + n
	}
	return answer{in: in}
}

// alike tells, by the library alone, whether two submissions are: nil and empty lists are one.
func alike(a, b api.In) bool {
	return a.Aid == b.Aid && a.Cursor == b.Cursor && slices.EqualFunc(a.Fields, b.Fields, func(x, y api.Entry) bool {
		return x.Addr == y.Addr && string(x.Text) == string(y.Text)
	})
}

// checkError holds an error against the number and the place that it shall have; a place of none: it has no Spot.
func checkError(t *testing.T, err error, want api.Errno, at int) {
	t.Helper()
	if !errors.Is(err, want) || api.Code(err) != int(want) {
		t.Fatalf("the error is %v, not %v", err, want)
	}
	var spot *api.Spot
	if errors.As(err, &spot) != (at != none) || api.Where(err) != at {
		t.Fatalf("%v is at %d, not at %d", err, api.Where(err), at)
	}
}

// checkWrite holds Right and Write of a right submission against its bytes, and reads them back.
func checkWrite(t *testing.T, in api.In, size int, want []byte) {
	t.Helper()
	if err := input.Right(in, size); err != nil {
		t.Fatalf("%v, size %d: %v, place %d", in, size, err, api.Where(err))
	}
	b, err := input.Write(in, size)
	if err != nil || !slices.Equal(b, want) {
		t.Fatalf("%v, size %d: %x and %v, not %x", in, size, b, err, want)
	}
	checkRead(t, b, size, in)
}

// checkNoWrite holds Right and Write of a submission that isn't right against the error that both shall answer.
func checkNoWrite(t *testing.T, in api.In, size int, want api.Errno, at int) {
	t.Helper()
	checkError(t, input.Right(in, size), want, at)
	b, err := input.Write(in, size)
	if len(b) != 0 {
		t.Fatalf("%v, size %d: %x beside %v", in, size, b, err)
	}
	checkError(t, err, want, at)
}

// checkLong holds Right and Write of a submission that is right but for its many bytes against ErrLong, which Write alone tells.
func checkLong(t *testing.T, in api.In, size int) {
	t.Helper()
	if err := input.Right(in, size); err != nil {
		t.Fatalf("size %d: %v, place %d", size, err, api.Where(err))
	}
	b, err := input.Write(in, size)
	if len(b) != 0 {
		t.Fatalf("size %d: %d bytes beside %v", size, len(b), err)
	}
	checkError(t, err, api.ErrLong, none)
}

// checkAny holds Right and Write of any submission against the document's words.
func checkAny(t *testing.T, in api.In, size int) {
	t.Helper()
	if want := right(in, size); want.code != 0 {
		checkNoWrite(t, in, size, want.code, want.at)
		return
	}
	if b := written(in, size); len(b) <= 8192 {
		checkWrite(t, in, size, b)
		return
	}
	checkLong(t, in, size)
}

// checkRead holds Read of a submission's bytes against the submission, and writes it back.
func checkRead(t *testing.T, b []byte, size int, want api.In) {
	t.Helper()
	in, err := input.Read(b, size)
	if err != nil || !alike(in, want) || !input.Same(in, want) || !input.Same(want, in) {
		t.Fatalf("%x, size %d: %v and %v, not %v", b, size, in, err, want)
	}
	if again, err := input.Write(in, size); err != nil || !slices.Equal(again, b) {
		t.Fatalf("%x, size %d: written back %x and %v", b, size, again, err)
	}
}

// checkNoRead holds Read of bytes that are no submission's against the error that it shall answer.
func checkNoRead(t *testing.T, b []byte, size int, want api.Errno, at int) {
	t.Helper()
	in, err := input.Read(b, size)
	if !alike(in, api.In{}) {
		t.Fatalf("%x, size %d: %v beside %v", b, size, in, err)
	}
	checkError(t, err, want, at)
}

// checkBytes holds Read of any bytes against the document's words.
func checkBytes(t *testing.T, b []byte, size int) {
	t.Helper()
	want := read(b, size)
	if want.code != 0 {
		checkNoRead(t, b, size, want.code, want.at)
		return
	}
	checkRead(t, b, size, want.in)
}
