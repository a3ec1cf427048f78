package bytes_test

import (
	"encoding/hex"
	"errors"
	"math"
	"slices"
	"testing"

	"shutter/api"
	"shutter/bytes"
)

// graphics is the graphic bytes, by their numbers: read by the library, not by the layers below.
func graphics() []byte {
	b, err := hex.DecodeString(api.Graphic)
	if err != nil || len(b) != 64 {
		panic("no graphic bytes")
	}
	return b
}

// isChar tells the characters by the document's words.
func isChar(b byte) bool {
	return b == 0 || b == 0x1c || b == 0x1e || 0x40 <= b && b <= 0xfe
}

// count is n bytes, each unlike those about it.
func count(n int) []byte {
	b := make([]byte, n)
	for i := range b {
		b[i] = byte(i + 1 + i>>8)
	}
	return b
}

// inputs is bytes of all lengths that the tests try, from none on.
func inputs() [][]byte {
	list := [][]byte{
		nil, {}, {0}, {0xff}, {0x40}, {0x11}, {0, 0}, {0xff, 0xff}, {0x40, 0x40}, {0xc1, 0x50}, {0x13, 0x88},
		{0x40, 0xc1, 0x11}, {0x11, 0xc1, 0x50, 0x40, 0xff, 0x40}, {0x1c, 0x1e, 0x1d, 0, 0x3f, 0xfe, 0xff},
	}
	for _, n := range []int{3, 4, 5, 16, 63, 64, 65, 255, 256, 257, 511, 512, 8191, 8192, 8193, 20000} {
		list = append(list, count(n))
	}
	return list
}

// places is the beginning, the end and some places between, of n bytes.
func places(n int) []int {
	list := []int{0, n}
	for _, p := range []int{1, 2, 3, n / 2, n - 3, n - 2, n - 1} {
		if p > 0 && p < n && !slices.Contains(list, p) {
			list = append(list, p)
		}
	}
	return list
}

// cursorAt is a cursor over b that stands at a place.
func cursorAt(t *testing.T, b []byte, at int) *bytes.Cursor {
	t.Helper()
	c := bytes.New(b)
	for range at {
		c.Byte()
	}
	checkAt(t, c, b, at)
	return c
}

// checkAt holds a cursor that met nothing against its place.
func checkAt(t *testing.T, c *bytes.Cursor, b []byte, at int) {
	t.Helper()
	if c.At() != at || c.Left() != len(b)-at {
		t.Fatalf("it is at %d, and %d are left, not %d and %d", c.At(), c.Left(), at, len(b)-at)
	}
	if err := c.Err(); err != nil {
		t.Fatalf("it met %v at %d", err, api.Where(err))
	}
	next, ok := c.Peek()
	if ok != (at < len(b)) || ok && next != b[at] || !ok && next != 0 {
		t.Fatalf("at %d: Peek is %x, %t", at, next, ok)
	}
	if c.At() != at || c.Left() != len(b)-at || c.Err() != nil {
		t.Fatalf("Peek took it to %d, with %d left and the error %v", c.At(), c.Left(), c.Err())
	}
}

// checkError holds the error that a cursor met against its number and its place.
func checkError(t *testing.T, c *bytes.Cursor, want api.Errno, at int) {
	t.Helper()
	err := c.Err()
	if !errors.Is(err, want) || api.Code(err) != int(want) {
		t.Fatalf("it met %v, not %v", err, want)
	}
	var spot *api.Spot
	if !errors.As(err, &spot) || spot.At != at || spot != err {
		t.Fatalf("it met %v at %d, not at %d", want, api.Where(err), at)
	}
}

// checkStopped tells if a cursor with an error takes anything more, or forgets the error or its place.
func checkStopped(t *testing.T, c *bytes.Cursor, want api.Errno, at, left int) {
	t.Helper()
	for range 2 {
		for name, empty := range map[string]func() bool{
			"Byte":       func() bool { return c.Byte() == 0 },
			"Peek":       func() bool { b, ok := c.Peek(); return b == 0 && !ok },
			"Take(0)":    func() bool { return len(c.Take(0)) == 0 },
			"Take(1)":    func() bool { return len(c.Take(1)) == 0 },
			"Take(2)":    func() bool { return len(c.Take(2)) == 0 },
			"Take(left)": func() bool { return len(c.Take(left)) == 0 },
			"Take(-1)":   func() bool { return len(c.Take(-1)) == 0 },
			"Take(max)":  func() bool { return len(c.Take(math.MaxInt)) == 0 },
			"Chars":      func() bool { return len(c.Chars()) == 0 },
			"Addr short": func() bool { return c.Addr(1920) == 0 },
			"Addr long":  func() bool { return c.Addr(8000) == 0 },
			"Addr none":  func() bool { return c.Addr(0) == 0 },
			"Fail":       func() bool { c.Fail(api.ErrNone); return true },
			"Fail spot":  func() bool { c.Fail(&api.Spot{At: 77, Err: api.ErrTag}); return true },
			"Fail nil":   func() bool { c.Fail(nil); return true },
		} {
			if !empty() {
				t.Fatalf("%s took something behind an error at %d", name, at)
			}
			if c.At() != at || c.Left() != left {
				t.Fatalf("behind %s it is at %d, and %d are left, not %d and %d", name, c.At(), c.Left(), at, left)
			}
			checkError(t, c, want, at)
		}
	}
}

// P6.1: a new cursor is at 0, with all its bytes left, and no error.
func TestNew(t *testing.T) {
	for _, b := range inputs() {
		checkAt(t, bytes.New(b), b, 0)
	}
	for i := range 256 {
		b := []byte{byte(i)}
		checkAt(t, bytes.New(b), b, 0)
		checkAt(t, bytes.New(append(b, 0xff, 0)), append(b, 0xff, 0), 0)
	}
}

// P6.1: cursors over the same bytes have places and errors of their own.
func TestNewApart(t *testing.T) {
	b := count(5)
	first, second := bytes.New(b), bytes.New(b)
	first.Take(2)
	checkAt(t, second, b, 0)
	second.Fail(api.ErrFull)
	checkAt(t, first, b, 2)
	first.Take(9)
	checkStopped(t, first, api.ErrCut, 2, 3)
	checkStopped(t, second, api.ErrFull, 0, 5)
}

// P6.1: At, Left, Peek and Err at each place, from the beginning to the end.
func TestPlaces(t *testing.T) {
	for _, b := range inputs() {
		c := bytes.New(b)
		for at := range b {
			checkAt(t, c, b, at)
			c.Byte()
		}
		checkAt(t, c, b, len(b))
	}
}

// P6.1: Peek of every byte, again and again, takes none.
func TestPeek(t *testing.T) {
	for i := range 256 {
		c := bytes.New([]byte{byte(i), byte(i + 1)})
		for range 3 {
			if b, ok := c.Peek(); b != byte(i) || !ok {
				t.Fatalf("Peek of %x: %x, %t", i, b, ok)
			}
		}
		c.Byte()
		if b, ok := c.Peek(); b != byte(i+1) || !ok {
			t.Fatalf("Peek of %x: %x, %t", byte(i+1), b, ok)
		}
		c.Byte()
		for range 3 {
			if b, ok := c.Peek(); b != 0 || ok || c.Err() != nil {
				t.Fatalf("Peek at the end: %x, %t, the error %v", b, ok, c.Err())
			}
		}
	}
}

// P6.1: Fail meets each error at each place, and nothing is taken behind it.
func TestFail(t *testing.T) {
	for _, b := range inputs() {
		for _, at := range places(len(b)) {
			c := cursorAt(t, b, at)
			c.Fail(api.ErrDigit)
			checkError(t, c, api.ErrDigit, at)
			checkStopped(t, c, api.ErrDigit, at, len(b)-at)
		}
	}
	for n := api.ErrArg; n <= api.ErrNone; n++ {
		c := cursorAt(t, count(3), 1)
		c.Fail(n)
		if inner := errors.Unwrap(c.Err()); inner != n {
			t.Fatalf("%v is wrapped, not %v", inner, n)
		}
		checkStopped(t, c, n, 1, 2)
	}
}

// P6.1: Fail of nil does nothing: what follows is taken, and an error behind it is met.
func TestFailNil(t *testing.T) {
	for _, b := range inputs() {
		for _, at := range places(len(b)) {
			c := cursorAt(t, b, at)
			c.Fail(nil)
			c.Fail(nil)
			checkAt(t, c, b, at)
			if got := c.Take(len(b) - at); !slices.Equal(got, b[at:]) {
				t.Fatalf("at %d: %x is taken", at, got)
			}
			c.Fail(nil)
			checkAt(t, c, b, len(b))
			c.Fail(api.ErrOld)
			checkStopped(t, c, api.ErrOld, len(b), 0)
		}
	}
}

// P6.1: the first error stays, whichever it was, and whichever comes then.
func TestFailTwice(t *testing.T) {
	for first := api.ErrArg; first <= api.ErrNone; first++ {
		for second := api.ErrArg; second <= api.ErrNone; second++ {
			c := cursorAt(t, count(4), 2)
			c.Fail(first)
			c.Fail(second)
			checkError(t, c, first, 2)
			c.Fail(nil)
			checkError(t, c, first, 2)
		}
	}
}

// P6.1: an error that has a place is wrapped whole; the cursor's place is the one that is told.
func TestFailSpot(t *testing.T) {
	for _, at := range []int{0, 1, 3} {
		for _, inner := range []int{-1, 0, 1, 2, 99, math.MinInt, math.MaxInt} {
			spot := &api.Spot{At: inner, Err: api.ErrOrder}
			c := cursorAt(t, count(3), at)
			c.Fail(spot)
			checkStopped(t, c, api.ErrOrder, at, 3-at)
			if errors.Unwrap(c.Err()) != spot || *spot != (api.Spot{At: inner, Err: api.ErrOrder}) {
				t.Fatalf("at %d: %v is wrapped", at, errors.Unwrap(c.Err()))
			}
			outer := cursorAt(t, count(9), 7)
			outer.Fail(c.Err())
			checkStopped(t, outer, api.ErrOrder, 7, 2)
			if errors.Unwrap(outer.Err()) != c.Err() {
				t.Fatalf("at %d: %v is wrapped", at, errors.Unwrap(outer.Err()))
			}
		}
	}
}

// P6.1: an error that is none of api's is met as any other.
func TestFailForeign(t *testing.T) {
	foreign := errors.New("of somebody else")
	c := cursorAt(t, count(3), 2)
	c.Fail(foreign)
	c.Fail(api.ErrArg)
	if err := c.Err(); !errors.Is(err, foreign) || api.Code(err) != 0 || api.Where(err) != 2 {
		t.Errorf("it met %v at %d", err, api.Where(err))
	}
	if b := c.Byte(); b != 0 || c.At() != 2 || c.Left() != 1 {
		t.Errorf("it took %x", b)
	}
}

// P6.2: Byte takes each byte, whichever it is; with none it meets ErrCut.
func TestByte(t *testing.T) {
	for _, b := range inputs() {
		c := bytes.New(b)
		for at := range b {
			if got := c.Byte(); got != b[at] {
				t.Fatalf("at %d: %x, not %x", at, got, b[at])
			}
			if c.Err() != nil || c.At() != at+1 || c.Left() != len(b)-at-1 {
				t.Fatalf("behind %d: it is at %d, and %d are left; the error is %v", at, c.At(), c.Left(), c.Err())
			}
		}
		checkAt(t, c, b, len(b))
		if got := c.Byte(); got != 0 {
			t.Fatalf("at the end: %x", got)
		}
		checkStopped(t, c, api.ErrCut, len(b), 0)
	}
	for i := range 256 {
		c := bytes.New([]byte{byte(i)})
		if got := c.Byte(); got != byte(i) || c.Err() != nil {
			t.Fatalf("%x: %x and %v", i, got, c.Err())
		}
	}
}

// P6.2: an ErrCut of Byte and of Take wraps ErrCut itself.
func TestCutWraps(t *testing.T) {
	for name, meet := range map[string]func(c *bytes.Cursor){
		"Byte":     func(c *bytes.Cursor) { c.Byte() },
		"Take(1)":  func(c *bytes.Cursor) { c.Take(1) },
		"Take(-1)": func(c *bytes.Cursor) { c.Take(-1) },
		"Addr":     func(c *bytes.Cursor) { c.Addr(1920) },
	} {
		c := cursorAt(t, count(2), 2)
		meet(c)
		checkError(t, c, api.ErrCut, 2)
		if inner := errors.Unwrap(c.Err()); inner != api.ErrCut {
			t.Errorf("%s: %v is wrapped", name, inner)
		}
	}
}

// P6.2: Take with enough bytes and with just enough, at the beginning, within and at the end.
func TestTake(t *testing.T) {
	for _, b := range inputs() {
		for _, at := range places(len(b)) {
			for _, n := range places(len(b) - at) {
				c := cursorAt(t, b, at)
				if got := c.Take(n); !slices.Equal(got, b[at:at+n]) {
					t.Fatalf("at %d: Take(%d) is %x, not %x", at, n, got, b[at:at+n])
				}
				checkAt(t, c, b, at+n)
			}
		}
	}
}

// P6.2: Take of more than there are, and of numbers below 0: ErrCut, and none is taken.
func TestTakeCut(t *testing.T) {
	for _, b := range inputs() {
		for _, at := range places(len(b)) {
			left := len(b) - at
			for _, n := range []int{
				left + 1, left + 2, left + 64, 2*left + 1, 30000, math.MaxInt32, math.MaxInt - 1, math.MaxInt, math.MaxInt - at + 1,
				-1, -2, -at - 1, -left - 1, -30000, math.MinInt32, math.MinInt + 1, math.MinInt, math.MinInt + at,
			} {
				if n >= 0 && n <= left {
					continue // the greatest int and 1 is none of these, at 0
				}
				c := cursorAt(t, b, at)
				if got := c.Take(n); len(got) != 0 {
					t.Fatalf("at %d of %d: Take(%d) is %x", at, len(b), n, got)
				}
				checkError(t, c, api.ErrCut, at)
				checkStopped(t, c, api.ErrCut, at, left)
			}
		}
	}
}

// P6.2: Take of none takes none, and meets nothing, at the end too.
func TestTakeNone(t *testing.T) {
	for _, b := range inputs() {
		for _, at := range places(len(b)) {
			c := cursorAt(t, b, at)
			for range 3 {
				if got := c.Take(0); len(got) != 0 {
					t.Fatalf("at %d: %x", at, got)
				}
				checkAt(t, c, b, at)
			}
		}
	}
}

// sizes is sizes whose addresses are written short and long.
var sizes = []int{1, 2, 64, 65, 80, 1920, 4095, 4096, 4097, 4098, 8000, 16382, 16383}

// noSizes is numbers that no size is.
var noSizes = []int{0, -1, -1920, -16383, 16384, 16385, 65536, 65536 + 1920, math.MinInt, math.MinInt32, math.MaxInt32, math.MaxInt}

// written is an address's bytes by the document's words.
func written(a, size int) []byte {
	if size <= 4096 {
		return []byte{graphics()[a/64], graphics()[a%64]}
	}
	return []byte{byte(a / 256), byte(a % 256)}
}

// addresses is the first, the last and some other cells of a screen.
func addresses(size int) []int {
	list := []int{}
	for _, a := range []int{0, 1, 63, 64, 80, 255, 256, 4095, 4096, size / 2, size - 2, size - 1} {
		if a >= 0 && a < size {
			list = append(list, a)
		}
	}
	return list
}

// P6.2: Addr of addresses in both ways of writing, with bytes before and behind, and with none.
func TestAddr(t *testing.T) {
	for _, size := range sizes {
		for _, a := range addresses(size) {
			for _, before := range []int{0, 1, 5} {
				for _, behind := range []int{0, 1, 5} {
					b := slices.Concat(count(before), written(a, size), count(behind))
					c := cursorAt(t, b, before)
					if got := c.Addr(size); got != a {
						t.Fatalf("size %d: %d, not %d", size, got, a)
					}
					checkAt(t, c, b, before+2)
				}
			}
		}
	}
}

// P6.2: an address may be taken behind another, of another size too.
func TestAddrAgain(t *testing.T) {
	for _, first := range sizes {
		for _, second := range sizes {
			b := slices.Concat(written(first-1, first), written(second/2, second))
			c := bytes.New(b)
			if got := c.Addr(first); got != first-1 {
				t.Fatalf("size %d: %d", first, got)
			}
			checkAt(t, c, b, 2)
			if got := c.Addr(second); got != second/2 {
				t.Fatalf("size %d: %d", second, got)
			}
			checkAt(t, c, b, 4)
		}
	}
}

// checkNoAddr tells if Addr takes what isn't an address. The place within the address is -1, where the error has none.
func checkNoAddr(t *testing.T, b []byte, at, size int, want api.Errno, inner int) {
	t.Helper()
	c := cursorAt(t, b, at)
	if a := c.Addr(size); a != 0 {
		t.Fatalf("Addr(%d) of %x: %d", size, b[at:], a)
	}
	checkError(t, c, want, at)
	if got := api.Where(errors.Unwrap(c.Err())); got != inner {
		t.Fatalf("Addr(%d) of %x: the error that is wrapped is at %d, not %d", size, b[at:], got, inner)
	}
	checkStopped(t, c, want, at, len(b)-at)
}

// P6.2: Addr with no byte left, and with one: ErrCut.
func TestAddrCut(t *testing.T) {
	for _, size := range sizes {
		for _, before := range []int{0, 1, 5, 256} {
			checkNoAddr(t, count(before), before, size, api.ErrCut, -1)
			for _, last := range []byte{0, 0x40, 0xc1, 0xff} {
				checkNoAddr(t, append(count(before), last), before, size, api.ErrCut, -1)
			}
		}
	}
}

// P6.2: Addr of no size is ErrArg, with however few bytes left.
func TestAddrNoSize(t *testing.T) {
	for _, size := range noSizes {
		for _, before := range []int{0, 1, 5} {
			for _, tail := range [][]byte{nil, {0x40}, {0xff}, {0x40, 0x40}, {0, 0}, {0xff, 0xff}, {0xc1, 0x50, 0x40}} {
				checkNoAddr(t, slices.Concat(count(before), tail), before, size, api.ErrArg, -1)
			}
		}
	}
}

// P6.2: Addr of bytes that are no address: its place is told, and that of the byte by the error that is wrapped.
func TestAddrNoAddress(t *testing.T) {
	for _, c := range []struct {
		tail  []byte
		size  int
		want  api.Errno
		inner int
	}{
		{[]byte{0x41, 0x40}, 1920, api.ErrByte, 0},
		{[]byte{0xff, 0xff}, 4096, api.ErrByte, 0},
		{[]byte{0x13, 0x88}, 1, api.ErrByte, 0},
		{[]byte{0x40, 0x41}, 1920, api.ErrByte, 1},
		{[]byte{0x7f, 0}, 20, api.ErrByte, 1},
		{[]byte{0x40, 0xff, 0x40}, 4096, api.ErrByte, 1},
		{[]byte{64, 0}, 4097, api.ErrByte, 0},
		{[]byte{0xc1, 0x50}, 8000, api.ErrByte, 0},
		{[]byte{0xff, 0xff, 0}, 16383, api.ErrByte, 0},
		{[]byte{0x40, 0xc1}, 1, api.ErrAddr, -1},
		{[]byte{0x5e, 0x40}, 1920, api.ErrAddr, -1},
		{[]byte{0x7f, 0x7f, 0x40}, 4095, api.ErrAddr, -1},
		{[]byte{0x10, 1}, 4097, api.ErrAddr, -1},
		{[]byte{0x1f, 0x40}, 8000, api.ErrAddr, -1},
		{[]byte{0x3f, 0xff, 0}, 16383, api.ErrAddr, -1},
	} {
		for _, before := range []int{0, 1, 2, 5, 256} {
			checkNoAddr(t, slices.Concat(count(before), c.tail), before, c.size, c.want, c.inner)
		}
	}
}

// P6.2: Chars takes any one byte that is a character, and no other.
func TestCharsEachByte(t *testing.T) {
	for i := range 256 {
		for _, b := range [][]byte{{byte(i)}, {byte(i), 0x11}, {byte(i), 0xff}, {byte(i), 0x3f, 0x40}} {
			c := bytes.New(b)
			want := 0
			if isChar(byte(i)) {
				want = 1
			}
			if got := c.Chars(); !slices.Equal(got, b[:want]) {
				t.Fatalf("%x: %x", b, got)
			}
			checkAt(t, c, b, want)
		}
	}
}

// P6.2: Chars of none, of some and of all, at the beginning, within and at the end; and, again, of none.
func TestChars(t *testing.T) {
	chars := []byte{0x40, 0xc1, 0, 0x1c, 0x1e, 0xfe, 0x7f, 0x41, 0xff - 1}
	for _, before := range []int{0, 1, 5} {
		for n := range len(chars) + 1 {
			for _, tail := range [][]byte{nil, {0x11}, {0xff, 0x40}, {0x1d, 0x40, 0x40}, {0x01}, {0x1b, 0}, {0x1f}, {0x3f, 0xc1}} {
				b := slices.Concat(count(before), chars[:n], tail)
				c := cursorAt(t, b, before)
				if got := c.Chars(); !slices.Equal(got, chars[:n]) {
					t.Fatalf("at %d of %x: %x", before, b, got)
				}
				checkAt(t, c, b, before+n)
				for range 2 {
					if got := c.Chars(); len(got) != 0 {
						t.Fatalf("at %d of %x: %x", before+n, b, got)
					}
					checkAt(t, c, b, before+n)
				}
			}
		}
	}
}

// P6.2: Chars of very many.
func TestCharsMany(t *testing.T) {
	for _, n := range []int{255, 256, 257, 8192, 20000, 100000} {
		b := append(slices.Repeat([]byte{0xe2}, n), 0x13, 0x40)
		c := bytes.New(b)
		if got := c.Chars(); len(got) != n || !slices.Equal(got, b[:n]) {
			t.Fatalf("%d: %d are taken", n, len(got))
		}
		checkAt(t, c, b, n)
	}
}

// P6.1, P6.2: the chapter's example.
func TestExample(t *testing.T) {
	c := bytes.New([]byte{0x40, 0xc1, 0x11})
	if got := c.Chars(); !slices.Equal(got, []byte{0x40, 0xc1}) {
		t.Errorf("Chars: %x", got)
	}
	if got := c.Byte(); got != 0x11 || c.Err() != nil {
		t.Errorf("Byte: %x and %v", got, c.Err())
	}
	if got := c.Byte(); got != 0 {
		t.Errorf("Byte: %x", got)
	}
	checkStopped(t, c, api.ErrCut, 3, 0)
}

// P6.1, P6.2: whichever call meets an error first, it stays, and its place.
func TestFirstErrorStays(t *testing.T) {
	for _, c := range []struct {
		meet func(c *bytes.Cursor)
		want api.Errno
	}{
		{func(c *bytes.Cursor) { c.Take(9) }, api.ErrCut},
		{func(c *bytes.Cursor) { c.Take(math.MinInt) }, api.ErrCut},
		{func(c *bytes.Cursor) { c.Addr(0) }, api.ErrArg},
		{func(c *bytes.Cursor) { c.Addr(1920) }, api.ErrByte},
		{func(c *bytes.Cursor) { c.Addr(16383) }, api.ErrByte},
		{func(c *bytes.Cursor) { c.Fail(api.ErrLong) }, api.ErrLong},
	} {
		for _, at := range []int{0, 1, 2, 3} {
			cursor := bytes.New([]byte{0xff, 0xff, 0xff, 0xff, 0xff, 0xff})
			cursor.Take(at)
			c.meet(cursor)
			checkError(t, cursor, c.want, at)
			checkStopped(t, cursor, c.want, at, 6-at)
		}
	}
}

// model is a cursor by the document's words.
type model struct {
	b         []byte
	at        int
	code      int
	charEnd   func(b byte) bool
	byNumbers []byte
}

// take is the next n bytes, or an error.
func (m *model) take(n int) []byte {
	switch {
	case m.code != 0:
		return nil
	case n < 0 || n > len(m.b)-m.at:
		m.code = 2
		return nil
	}
	m.at += n
	return m.b[m.at-n : m.at]
}

// chars is the next characters.
func (m *model) chars() []byte {
	n := slices.IndexFunc(m.b[m.at:], m.charEnd)
	if n < 0 {
		n = len(m.b) - m.at
	}
	return m.take(n)
}

// addr is the next address.
func (m *model) addr(size int) int {
	left := m.b[m.at:]
	switch {
	case m.code != 0:
		return 0
	case size < 1 || size > 16383:
		m.code = 1
		return 0
	case len(left) < 2:
		m.code = 2
		return 0
	}
	a := int(left[0])*256 + int(left[1])
	bad := left[0] >= 64
	if size <= 4096 {
		high, low := slices.Index(m.byNumbers, left[0]), slices.Index(m.byNumbers, left[1])
		a, bad = high*64+low, high < 0 || low < 0
	}
	switch {
	case bad:
		m.code = 3
		return 0
	case a >= size:
		m.code = 4
		return 0
	}
	m.at += 2
	return a
}

// steps is how many kinds of steps there are.
const steps = 14

// step does one call on a cursor and on its model: what both took, as bytes and as a number.
func step(kind int, c *bytes.Cursor, m *model) (got, want []byte, number, shall int) {
	switch kind {
	case 0:
		number = int(c.Byte())
		if b := m.take(1); len(b) > 0 {
			shall = int(b[0])
		}
	case 1, 2, 3, 4, 5, 6:
		n := []int{-1, 0, 1, 2, 3, len(m.b) - m.at}[kind-1]
		got, want = c.Take(n), m.take(n)
	case 7, 8, 9, 10:
		size := []int{20, 1920, 8000, 0}[kind-7]
		number, shall = c.Addr(size), m.addr(size)
	case 11:
		got, want = c.Chars(), m.chars()
	case 12:
		c.Fail(nil)
	case 13:
		c.Fail(api.ErrFull)
		if m.code == 0 {
			m.code = 10
		}
	}
	return got, want, number, shall
}

// checkRun does a run of steps on a cursor over b, and holds all that it tells against the model.
func checkRun(t *testing.T, b []byte, run []int, byNumbers []byte) {
	t.Helper()
	c := bytes.New(b)
	m := &model{b: b, charEnd: func(b byte) bool { return !isChar(b) }, byNumbers: byNumbers}
	for i, kind := range run {
		got, want, number, shall := step(kind, c, m)
		if !slices.Equal(got, want) || number != shall {
			t.Fatalf("%x, step %d of %v: %x and %d, not %x and %d", b, i, run, got, number, want, shall)
		}
		place := -1
		if m.code != 0 {
			place = m.at
		}
		if c.At() != m.at || c.Left() != len(b)-m.at || api.Code(c.Err()) != m.code || api.Where(c.Err()) != place {
			t.Fatalf("%x, step %d of %v: at %d, %d left, %v at %d", b, i, run, c.At(), c.Left(), c.Err(), api.Where(c.Err()))
		}
		next, ok := c.Peek()
		if there := m.code == 0 && m.at < len(b); ok != there || ok && next != b[m.at] || !ok && next != 0 {
			t.Fatalf("%x, step %d of %v: Peek is %x, %t", b, i, run, next, ok)
		}
	}
}

// P6.1, P6.2: every run of four calls, over bytes of all kinds.
func TestRuns(t *testing.T) {
	byNumbers := graphics()
	for _, b := range [][]byte{
		nil, {0x40}, {0x11}, {0x40, 0x40}, {0x40, 0xc1, 0x11}, {0x13, 0x88, 0x40},
		{0x11, 0xc1, 0x50, 0x40, 0xff, 0x40}, {0x40, 0x41, 0x41, 0x40, 0x40}, {0x01, 0x02, 0x5d, 0x7f, 0x5e, 0x40, 0, 0x1d, 0x60},
	} {
		run := make([]int, 4)
		for i := range steps * steps * steps * steps {
			for j := range run {
				run[j] = i % steps
				i /= steps
			}
			checkRun(t, b, run, byNumbers)
		}
	}
}

// P6.1, P6.2: long runs over many bytes; they are drawn alike in each test run.
func TestLongRuns(t *testing.T) {
	byNumbers := graphics()
	state := uint32(1)
	draw := func(n int) int {
		state = state*1664525 + 1013904223
		return int(state>>8) % n
	}
	for range 3000 {
		b := make([]byte, draw(60))
		for i := range b {
			b[i] = []byte{0x40, byNumbers[draw(64)], byte(draw(64)), byte(draw(256))}[draw(4)]
		}
		run := make([]int, 40)
		for i := range run {
			run[i] = []int{0, 2, 3, 4, 5, 8, 9, 11, 12}[draw(9)] // seldom an error
		}
		checkRun(t, b, run, byNumbers)
	}
}

// P6.3: what is taken, piece by piece, is the bytes, in order: for every way to part them by Take.
func TestPiecesTaken(t *testing.T) {
	for n := range 12 {
		b := count(n)
		for ends := range 1 << n { // a bit is set where a piece ends
			c := bytes.New(b)
			var all []byte
			from := 0
			for at := range n {
				if ends>>at&1 == 1 {
					all = append(all, c.Take(at+1-from)...)
					from = at + 1
				}
			}
			all = append(all, c.Take(n-from)...)
			if !slices.Equal(all, b) {
				t.Fatalf("%x: the pieces are %x", b, all)
			}
			checkAt(t, c, b, n)
		}
	}
}

// P6.3: likewise, by Byte, Take, Chars and Addr in turn, with Peek between.
func TestPiecesMixed(t *testing.T) {
	for _, size := range []int{1920, 8000} {
		var b []byte
		for a := range 1000 {
			b = slices.Concat(b, written(a, size), []byte{0xc1, 0x40, byte(a)}[:a%4%3], []byte{0x11, byte(a), byte(a >> 8)})
		}
		c := bytes.New(b)
		var all []byte
		for c.Left() > 0 && c.Err() == nil {
			all = append(all, written(c.Addr(size), size)...)
			all = append(all, c.Chars()...)
			if next, ok := c.Peek(); !ok || next != 0x11 {
				t.Fatalf("at %d: Peek is %x, %t", c.At(), next, ok)
			}
			all = append(all, c.Byte())
			all = append(all, c.Take(2)...)
		}
		if !slices.Equal(all, b) || c.Err() != nil || c.At() != len(b) {
			t.Fatalf("size %d: at %d of %d, %v", size, c.At(), len(b), c.Err())
		}
	}
}

// P6.4: what is handed in stays, whatever is taken, and whatever is written into what was answered.
func TestHandedInStays(t *testing.T) {
	b := []byte{0x40, 0xc1, 0x50, 0x11, 0x11, 0xc1, 0x50, 0xff, 0xff, 1, 2, 3}
	before := slices.Clone(b)
	for cut := range len(b) + 1 {
		c := bytes.New(b[:cut])
		for _, taken := range [][]byte{c.Chars(), c.Take(2), {c.Byte(), byte(c.Addr(1920))}, c.Take(cut), c.Chars()} {
			for i := range taken {
				taken[i] ^= 0xff
			}
			_ = append(taken, 0xaa, 0xbb)
			if !slices.Equal(b, before) {
				t.Fatalf("of %x there is %x", before, b)
			}
		}
		c.Fail(api.ErrArg)
		if !slices.Equal(b, before) {
			t.Fatalf("of %x there is %x", before, b)
		}
	}
}

// P6.4: what is handed in isn't kept: who writes into it afterwards changes nothing that is taken.
func TestHandedInIsNotKept(t *testing.T) {
	for _, n := range []int{1, 2, 3, 64, 512, 8192} {
		for _, at := range places(n) {
			b := count(n)
			want := slices.Clone(b)
			c := cursorAt(t, b, at)
			for i := range b {
				b[i] ^= 0xff
			}
			checkAt(t, c, want, at)
			if got := c.Take(n - at); !slices.Equal(got, want[at:]) {
				t.Fatalf("at %d of %d: %x", at, n, got)
			}
		}
	}
	b := []byte{0x40, 0xc1, 0x50}
	c := bytes.New(b)
	b[0], b[1], b[2] = 0xff, 0xff, 0xff
	if got := c.Chars(); !slices.Equal(got, []byte{0x40, 0xc1, 0x50}) {
		t.Errorf("Chars: %x", got)
	}
	b = []byte{0xc1, 0x50}
	c = bytes.New(b)
	b[0], b[1] = 0x40, 0x40
	if got := c.Addr(1920); got != 80 {
		t.Errorf("Addr: %d", got)
	}
	room := append(make([]byte, 0, 8), 1, 2)
	c = bytes.New(room)
	_ = append(room, 3, 4)
	if c.Take(2); c.Left() != 0 || c.Byte() != 0 || !errors.Is(c.Err(), api.ErrCut) {
		t.Errorf("it went on to what was written behind: %v", c.Err())
	}
}

// P6.4: what is answered is new memory: who writes into it, or behind it, changes nothing that is taken later.
func TestAnsweredIsNew(t *testing.T) {
	takes := map[string]func(c *bytes.Cursor) []byte{
		"Take":  func(c *bytes.Cursor) []byte { return c.Take(3) },
		"Chars": func(c *bytes.Cursor) []byte { return c.Chars() },
	}
	for name, first := range takes {
		for other, second := range takes {
			b := []byte{0x40, 0xc1, 0x50, 0x11, 0xc1, 0xc2, 0xc3, 0x11}
			c := bytes.New(b)
			one := first(c)
			one[0] = 0xaa
			_ = append(one, 0xbb, 0xbb, 0xbb, 0xbb, 0xbb)
			if got := c.Byte(); got != 0x11 {
				t.Errorf("%s, Byte: %x", name, got)
			}
			two := second(c)
			if !slices.Equal(two, []byte{0xc1, 0xc2, 0xc3}) || !slices.Equal(one, []byte{0xaa, 0xc1, 0x50}) {
				t.Errorf("%s, %s: %x and %x", name, other, one, two)
			}
			two[0], two[2] = 0xdd, 0xdd
			_ = append(two, 0xee)
			if got := c.Byte(); got != 0x11 || !slices.Equal(one, []byte{0xaa, 0xc1, 0x50}) {
				t.Errorf("%s, %s, Byte: %x; the first is %x", name, other, got, one)
			}
		}
	}
}

// P1: of a cursor that nobody made no call panics; one that is nil, or empty, is over no bytes.
func TestNoCursor(t *testing.T) {
	var none *bytes.Cursor
	for _, c := range []*bytes.Cursor{none, {}} {
		checkAt(t, c, nil, 0)
		if len(c.Take(0)) != 0 || len(c.Chars()) != 0 {
			t.Error("something is taken")
		}
		checkAt(t, c, nil, 0)
	}
	for name, take := range map[string]func() bool{
		"Byte": func() bool { return none.Byte() != 0 },
		"Take": func() bool { return len(none.Take(1))+len(none.Take(-1)) != 0 },
		"Addr": func() bool { return none.Addr(1920)+none.Addr(8000)+none.Addr(0) != 0 },
		"Fail": func() bool { none.Fail(api.ErrArg); return none.Err() != nil },
	} {
		if take() {
			t.Errorf("%s of no cursor takes something", name)
		}
	}
	empty := new(bytes.Cursor)
	empty.Byte()
	checkStopped(t, empty, api.ErrCut, 0, 0)
}
