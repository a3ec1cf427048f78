package order_test

import (
	"encoding/hex"
	"errors"
	"math"
	"math/bits"
	"slices"
	"testing"

	"shutter/api"
	"shutter/bytes"
	"shutter/order"
)

// graphics is the graphic bytes, by their numbers: read by the library, not by the layers below.
var graphics = func() []byte {
	b, err := hex.DecodeString(api.Graphic)
	if err != nil || len(b) != 64 {
		panic("no graphic bytes")
	}
	return b
}()

// sizes is sizes whose addresses are written short and long: the edges first.
var sizes = []int{1, 4096, 4097, 16383, 2, 20, 64, 65, 1920, 4095, 4098, 8000, 16382}

// edges is the sizes at which an address's writing begins and ends.
var edges = sizes[:4]

// half is a number none of whose lower bits are set.
const half = 1 << (bits.UintSize / 2)

// noKinds is numbers that no kind of order has.
var noKinds = []int{
	0, 8, -1, 9, -2, 10, 17, 60, 0x1d, 0x11, 255, 256, 257, 258, 263, 65536 + 3, -256 + 1, -8, -7,
	half + 1, half + 7, -half + 4, math.MaxInt32, math.MinInt32, math.MinInt32 + 4, math.MinInt + 1, math.MinInt, math.MaxInt - 1, math.MaxInt,
}

// isChar tells the characters by the document's words.
func isChar(b byte) bool {
	return b == 0 || b == 0x1c || b == 0x1e || 0x40 <= b && b <= 0xfe
}

// chars is all characters.
func chars() []byte {
	var list []byte
	for i := range 256 {
		if isChar(byte(i)) {
			list = append(list, byte(i))
		}
	}
	return list
}

// attrs is all attributes that can be written.
func attrs() []api.Attr {
	var list []api.Attr
	for show := range 4 {
		for i := range 8 {
			list = append(list, api.Attr{Protected: i&4 != 0, Numeric: i&2 != 0, Show: show, Modified: i&1 != 0})
		}
	}
	return list
}

// attrByte is an attribute's byte by the document's words.
func attrByte(a api.Attr) byte {
	n := 4 * a.Show
	if a.Protected {
		n += 32
	}
	if a.Numeric {
		n += 16
	}
	if a.Modified {
		n++
	}
	return graphics[n]
}

// attrOf is the attribute that a byte is the one of, by the document's words.
func attrOf(b byte) (api.Attr, bool) {
	n := slices.Index(graphics, b)
	if n < 0 || n%4 > 1 {
		return api.Attr{}, false
	}
	return api.Attr{Protected: n >= 32, Numeric: n%32 >= 16, Show: n % 16 / 4, Modified: n%2 == 1}, true
}

// addresses is cells about the beginning and the end of a screen, and some between.
func addresses(size int) []int {
	var list []int
	for _, a := range []int{0, 1, 2, 63, 64, 80, 255, 256, 4095, 4096, size / 2, size - 2, size - 1} {
		if a >= 0 && a < size && !slices.Contains(list, a) {
			list = append(list, a)
		}
	}
	return list
}

// noAddresses is numbers of no cell of a screen, about 0 and its size, and far outside.
func noAddresses(size int) []int {
	return []int{
		-1, -2, size, size + 1, -size, -size - 1, 2 * size, size + 4096, size + 16384, 65536, 65536 + size - 1, -65536,
		half, half + size - 1, -half, math.MinInt32, math.MaxInt32, math.MinInt, math.MinInt + 1, math.MaxInt - 1, math.MaxInt,
	}
}

// addrBytes is an address's bytes by the document's words.
func addrBytes(a, size int) []byte {
	if size <= 4096 {
		return []byte{graphics[a/64], graphics[a%64]}
	}
	return []byte{byte(a / 256), byte(a % 256)}
}

// addrOf is the address that two bytes are, or the number of its error, by the document's words.
func addrOf(b []byte, size int) (int, api.Errno) {
	a, bad := int(b[0])*256+int(b[1]), b[0] >= 64
	if size <= 4096 {
		high, low := slices.Index(graphics, b[0]), slices.Index(graphics, b[1])
		a, bad = high*64+low, high < 0 || low < 0
	}
	switch {
	case bad:
		return 0, api.ErrByte
	case a >= size:
		return 0, api.ErrAddr
	}
	return a, 0
}

// fault is the number of what is wrong with an order, by the document's words; 0: nothing is.
func fault(o api.Order, size int) api.Errno {
	if o.Kind < 1 || o.Kind > 7 {
		return api.ErrOrder
	}
	text, start, repeat := o.Kind == 1, o.Kind == 2, o.Kind == 6
	placed := o.Kind == 3 || o.Kind == 6 || o.Kind == 7
	switch {
	case !text && len(o.Text) > 0, !start && o.Attr != (api.Attr{}), !placed && o.Addr != 0, !repeat && o.Char != 0:
		return api.ErrArg
	case text && (len(o.Text) == 0 || slices.ContainsFunc(o.Text, func(b byte) bool { return !isChar(b) })):
		return api.ErrArg
	case start && (o.Attr.Show < 0 || o.Attr.Show > 3), repeat && !isChar(o.Char):
		return api.ErrArg
	case placed && (o.Addr < 0 || o.Addr >= size):
		return api.ErrAddr
	}
	return 0
}

// written is the bytes of a right order, by the document's words.
func written(o api.Order, size int) []byte {
	switch o.Kind {
	case 1:
		return o.Text
	case 2:
		return []byte{0x1d, attrByte(o.Attr)}
	case 3:
		return append([]byte{0x11}, addrBytes(o.Addr, size)...)
	case 4:
		return []byte{0x13}
	case 5:
		return []byte{0x05}
	case 6:
		return append(append([]byte{0x3c}, addrBytes(o.Addr, size)...), o.Char)
	case 7:
		return append([]byte{0x12}, addrBytes(o.Addr, size)...)
	}
	panic("no kind")
}

// found is what Get shall answer: the order, where the cursor stands then, and the number of the error that it met, 0 if none.
type found struct {
	o    api.Order
	at   int
	code api.Errno
}

// read is the order that stands in b at a place, by the document's words.
func read(b []byte, at, size int) found {
	if at == len(b) {
		return found{at: at, code: api.ErrCut}
	}
	first := b[at]
	if isChar(first) {
		n := slices.IndexFunc(b[at:], func(b byte) bool { return !isChar(b) })
		if n < 0 {
			n = len(b) - at
		}
		return found{o: api.Order{Kind: 1, Text: b[at : at+n]}, at: at + n}
	}
	rest := b[at+1:]
	switch first {
	case 0x13:
		return found{o: api.Order{Kind: 4}, at: at + 1}
	case 0x05:
		return found{o: api.Order{Kind: 5}, at: at + 1}
	case 0x1d:
		if len(rest) == 0 {
			return found{at: at + 1, code: api.ErrCut}
		}
		a, ok := attrOf(rest[0])
		if !ok {
			return found{at: at + 1, code: api.ErrByte}
		}
		return found{o: api.Order{Kind: 2, Attr: a}, at: at + 2}
	case 0x11, 0x12, 0x3c:
		return readPlaced(first, rest, at+1, size)
	}
	return found{at: at, code: api.ErrOrder}
}

// readPlaced is the order with an address whose first byte stood ahead of the place.
func readPlaced(first byte, rest []byte, at, size int) found {
	if len(rest) < 2 {
		return found{at: at, code: api.ErrCut}
	}
	a, code := addrOf(rest, size)
	switch {
	case code != 0:
		return found{at: at, code: code}
	case first == 0x11:
		return found{o: api.Order{Kind: 3, Addr: a}, at: at + 2}
	case first == 0x12:
		return found{o: api.Order{Kind: 7, Addr: a}, at: at + 2}
	case len(rest) < 3:
		return found{at: at + 2, code: api.ErrCut}
	case !isChar(rest[2]):
		return found{at: at + 2, code: api.ErrByte}
	}
	return found{o: api.Order{Kind: 6, Addr: a, Char: rest[2]}, at: at + 3}
}

// alike tells, by the library alone, whether two orders are: nil and empty texts are one.
func alike(a, b api.Order) bool {
	return a.Kind == b.Kind && string(a.Text) == string(b.Text) && a.Attr == b.Attr && a.Addr == b.Addr && a.Char == b.Char
}

// rights is right orders of each kind, for a size: every character, every attribute, addresses about 0 and the size.
func rights(size int) []api.Order {
	list := []api.Order{{Kind: api.Cursor}, {Kind: api.Tab}, {Kind: api.Text, Text: chars()}}
	for _, c := range chars() {
		list = append(list, api.Order{Kind: api.Text, Text: []byte{c}}, api.Order{Kind: api.Repeat, Addr: size / 2, Char: c})
	}
	for _, text := range texts() {
		list = append(list, api.Order{Kind: api.Text, Text: text})
	}
	for _, a := range attrs() {
		list = append(list, api.Order{Kind: api.Start, Attr: a})
	}
	for _, a := range addresses(size) {
		list = append(list, api.Order{Kind: api.Set, Addr: a}, api.Order{Kind: api.Erase, Addr: a})
		for _, c := range []byte{0, 0x1c, 0x1e, 0x40, 0x5c, 0xfe} {
			list = append(list, api.Order{Kind: api.Repeat, Addr: a, Char: c})
		}
	}
	return list
}

// texts is characters, few and many.
func texts() [][]byte {
	list := [][]byte{{0}, {0, 0}, {0xc1, 0}, {0x1c, 0x1e}, {0xfe, 0x40, 0xfe}, {0x40, 0x40, 0x40, 0x40}}
	for _, n := range []int{63, 64, 65, 255, 256, 257, 8191, 8192, 8193, 20000} {
		list = append(list, slices.Repeat([]byte{0xe2}, n))
	}
	return list
}

// checkNumber holds an error against the number that it shall have, alone and without a place.
func checkNumber(t *testing.T, err error, want api.Errno) {
	t.Helper()
	if !errors.Is(err, want) || api.Code(err) != int(want) {
		t.Fatalf("the error is %v, not %v", err, want)
	}
	var spot *api.Spot
	if errors.As(err, &spot) || api.Where(err) != -1 {
		t.Fatalf("the error has the place %d", api.Where(err))
	}
}

// checkPut holds Right and Put of an order against the document's words.
func checkPut(t *testing.T, o api.Order, size int) {
	t.Helper()
	err := order.Right(o, size)
	b, putErr := order.Put(o, size)
	if want := fault(o, size); want != 0 {
		if api.Code(err) != int(want) || api.Code(putErr) != int(want) || len(b) != 0 {
			t.Fatalf("%v, size %d: Right %v, Put %x and %v, not %v", o, size, err, b, putErr, want)
		}
		checkNumber(t, err, want)
		checkNumber(t, putErr, want)
		return
	}
	if err != nil || putErr != nil || !slices.Equal(b, written(o, size)) {
		t.Fatalf("%v, size %d: Right %v, Put %x and %v, not %x", o, size, err, b, putErr, written(o, size))
	}
}

// cursorAt is a cursor over b that stands at a place.
func cursorAt(t *testing.T, b []byte, at int) *bytes.Cursor {
	t.Helper()
	c := bytes.New(b)
	c.Take(at)
	if c.At() != at || c.Err() != nil {
		t.Fatalf("at %d, not %d: %v", c.At(), at, c.Err())
	}
	return c
}

// checkGet holds Get, at a place among bytes, against the document's words.
func checkGet(t *testing.T, b []byte, at, size int) {
	t.Helper()
	c := cursorAt(t, b, at)
	want := read(b, at, size)
	o := order.Get(c, size)
	if !alike(o, want.o) || c.At() != want.at || c.Left() != len(b)-want.at {
		t.Fatalf("%x at %d, size %d: %v, and it stands at %d with %d left; not %v and %d", b, at, size, o, c.At(), c.Left(), want.o, want.at)
	}
	checkMet(t, c, want.code, want.at)
	if want.code != 0 {
		checkStopped(t, c, want.code, want.at, len(b)-want.at)
	}
}

// checkMet holds the error that a cursor met, and its place, against those that it shall have met; 0: none.
func checkMet(t *testing.T, c *bytes.Cursor, want api.Errno, at int) {
	t.Helper()
	err := c.Err()
	if want == 0 {
		if err != nil {
			t.Fatalf("it met %v at %d", err, api.Where(err))
		}
		return
	}
	var spot *api.Spot
	if !errors.Is(err, want) || api.Code(err) != int(want) || !errors.As(err, &spot) || spot.At != at {
		t.Fatalf("it met %v at %d, not %v at %d", err, api.Where(err), want, at)
	}
}

// checkStopped tells if Get takes anything from a cursor with an error, or changes the error.
func checkStopped(t *testing.T, c *bytes.Cursor, want api.Errno, at, left int) {
	t.Helper()
	err := c.Err()
	for _, size := range []int{1920, 8000} {
		if o := order.Get(c, size); !alike(o, api.Order{}) || len(o.Text) != 0 {
			t.Fatalf("behind an error at %d: %v", at, o)
		}
		if c.At() != at || c.Left() != left || c.Err() != err {
			t.Fatalf("behind an error at %d: it stands at %d with %d left, and %v", at, c.At(), c.Left(), c.Err())
		}
		checkMet(t, c, want, at)
	}
}
