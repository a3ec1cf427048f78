package order_test

import (
	"errors"
	"math"
	"slices"
	"testing"

	"shutter/api"
	"shutter/bytes"
	"shutter/order"
)

// befores is bytes that stand ahead of the place at which an order is read.
var befores = [][]byte{nil, {0x1d}, {0xc1}, {0x3c, 0x40, 0xff}, {0xff, 0xff, 0xff, 0xff, 0xff, 0xff, 0xff}}

// P7.2: orders that are read, one behind the other, worked out by hand.
func TestGetExamples(t *testing.T) {
	for _, x := range []struct {
		size int
		b    []byte
		want []api.Order
		ends []int // where the cursor stands behind each
	}{
		{1920, []byte{0x11, 0xc1, 0x50}, []api.Order{{Kind: api.Set, Addr: 80}}, []int{3}},
		{8000, []byte{0x11, 0x13, 0x88, 0x12, 0, 1, 0x3c, 0x13, 0x13, 0x1e}, []api.Order{
			{Kind: api.Set, Addr: 5000}, {Kind: api.Erase, Addr: 1}, {Kind: api.Repeat, Addr: 0x1313, Char: 0x1e},
		}, []int{3, 6, 10}},
		{1920, []byte{0xc1, 0, 0x1c, 0x13, 0x13, 0x05, 0x1d, 0xc1, 0xc1, 0x1d, 0x7d, 0x1e, 0xfe}, []api.Order{
			{Kind: api.Text, Text: []byte{0xc1, 0, 0x1c}}, {Kind: api.Cursor}, {Kind: api.Cursor}, {Kind: api.Tab},
			{Kind: api.Start, Attr: api.Attr{Modified: true}}, {Kind: api.Text, Text: []byte{0xc1}},
			{Kind: api.Start, Attr: api.Attr{Protected: true, Numeric: true, Show: 3, Modified: true}}, {Kind: api.Text, Text: []byte{0x1e, 0xfe}},
		}, []int{3, 4, 5, 6, 8, 9, 11, 13}},
		{4096, []byte{0x3c, 0x7f, 0x7f, 0, 0, 0x12, 0x40, 0x40}, []api.Order{
			{Kind: api.Repeat, Addr: 4095}, {Kind: api.Text, Text: []byte{0}}, {Kind: api.Erase},
		}, []int{4, 5, 8}},
	} {
		c := bytes.New(x.b)
		for i, want := range x.want {
			if got := order.Get(c, x.size); !alike(got, want) || c.Err() != nil || c.At() != x.ends[i] {
				t.Fatalf("%x, order %d: %v and %v, at %d; not %v, at %d", x.b, i, got, c.Err(), c.At(), want, x.ends[i])
			}
		}
		if got := order.Get(c, x.size); !alike(got, api.Order{}) {
			t.Errorf("%x, the end: %v", x.b, got)
		}
		checkStopped(t, c, api.ErrCut, len(x.b), 0)
	}
}

// P7.2: what no order is, worked out by hand: the error, its place, and where the cursor stands.
func TestGetErrorExamples(t *testing.T) {
	for _, x := range []struct {
		size int
		b    []byte
		want api.Errno
		at   int
	}{
		{20, nil, api.ErrCut, 0},
		{20, []byte{0xff, 0x40}, api.ErrOrder, 0},
		{20, []byte{0x3f}, api.ErrOrder, 0},
		{20, []byte{1, 2}, api.ErrOrder, 0},
		{20, []byte{0x1d}, api.ErrCut, 1},
		{20, []byte{0x1d, 0xc2, 0x40}, api.ErrByte, 1},
		{20, []byte{0x1d, 0}, api.ErrByte, 1},
		{20, []byte{0x1d, 0x1d}, api.ErrByte, 1},
		{20, []byte{0x11}, api.ErrCut, 1},
		{20, []byte{0x11, 0xff}, api.ErrCut, 1},
		{20, []byte{0x12, 0x41, 0x40}, api.ErrByte, 1},
		{20, []byte{0x12, 0x40, 0x41}, api.ErrByte, 1},
		{20, []byte{0x12, 0x40, 0xd4}, api.ErrAddr, 1},
		{8000, []byte{0x11, 0x40, 0x40}, api.ErrByte, 1},
		{8000, []byte{0x11, 0x1f, 0x40}, api.ErrAddr, 1},
		{20, []byte{0x3c}, api.ErrCut, 1},
		{20, []byte{0x3c, 0x40}, api.ErrCut, 1},
		{20, []byte{0x3c, 0x40, 0x40}, api.ErrCut, 3},
		{20, []byte{0x3c, 0x40, 0x40, 0x3f, 0x40}, api.ErrByte, 3},
		{20, []byte{0x3c, 0xff, 0x40, 0xff}, api.ErrByte, 1},
		{20, []byte{0x3c, 0x40, 0xd4, 0xff}, api.ErrAddr, 1},
		{8000, []byte{0x3c, 0x13, 0x88}, api.ErrCut, 3},
		{8000, []byte{0x3c, 0x13, 0x88, 0xff}, api.ErrByte, 3},
	} {
		for _, before := range befores {
			at := len(before) + x.at
			c := cursorAt(t, slices.Concat(before, x.b), len(before))
			if o := order.Get(c, x.size); !alike(o, api.Order{}) {
				t.Fatalf("%x behind %x: %v", x.b, before, o)
			}
			checkMet(t, c, x.want, at)
			checkStopped(t, c, x.want, at, len(x.b)-x.at)
		}
	}
}

// P7.2: every first byte, alone and with bytes behind it, from every place.
func TestGetFirstBytes(t *testing.T) {
	tails := [][]byte{nil, {0x40}, {0, 0}, {0x40, 0x40}, {0x40, 0x40, 0x40}, {0xff, 0xff, 0xff}, {0x40, 0xc1, 0x5c, 0x11}, {0, 0, 0, 0x1d}, {0x11, 0x40, 0x40}, {0x60, 0x13}}
	for i := range 256 {
		for _, tail := range tails {
			for _, before := range befores {
				for _, size := range edges {
					checkGet(t, slices.Concat(before, []byte{byte(i)}, tail), len(before), size)
				}
			}
		}
	}
}

// P7.2: every two bytes behind each order's byte that others follow.
func TestGetEveryTwo(t *testing.T) {
	for _, first := range []byte{0x1d, 0x11, 0x3c, 0x12} {
		for i := range 65536 {
			for _, size := range []int{20, 4096, 4097} {
				checkGet(t, []byte{first, byte(i >> 8), byte(i), 0x5c}, 0, size)
			}
		}
	}
}

// P7.2: every run of up to five bytes out of those that mean something, from its beginning and from within.
func TestGetRuns(t *testing.T) {
	kinds := []byte{0x1d, 0x11, 0x13, 0x3c, 0x12, 0x40, 0xc2, 0, 0xff, 0x3f}
	for n := range 6 {
		b := make([]byte, n)
		runs := 1
		for range n {
			runs *= len(kinds)
		}
		for i := range runs {
			for j := range b {
				b[j] = kinds[i%len(kinds)]
				i /= len(kinds)
			}
			for at := range min(n, 2) + 1 {
				checkGet(t, b, at, 20)
				checkGet(t, b, at, 8000)
			}
		}
	}
}

// P7.2, P7.3: what is written is read as it was, and takes just its bytes, whatever stands ahead and behind.
func TestThereAndBack(t *testing.T) {
	tails := [][]byte{nil, {0x13}, {0x1d, 0x40}, {0xff}, {1, 0x40, 0x40, 0x40}, {0x11}, {0x3f}}
	for _, size := range sizes {
		for _, o := range rights(size) {
			b, err := order.Put(o, size)
			if err != nil {
				t.Fatalf("%v: %v", o, err)
			}
			behind := tails
			if o.Kind != api.Text {
				behind = append(slices.Clone(tails), []byte{0x40}, []byte{0, 0xc1})
			}
			for i, tail := range behind {
				before := befores[i%len(befores)]
				c := cursorAt(t, slices.Concat(before, b, tail), len(before))
				got := order.Get(c, size)
				if !order.Same(got, o) || !order.Same(o, got) || !alike(got, o) || c.Err() != nil {
					t.Fatalf("%v, written %x, size %d: %v and %v", o, b, size, got, c.Err())
				}
				if c.At() != len(before)+len(b) || c.Left() != len(tail) {
					t.Fatalf("%v, written %x: it stands at %d, not %d", o, b, c.At(), len(before)+len(b))
				}
			}
		}
	}
}

// P7.3: what is read is right, and is written as it stood.
func TestBackAndThere(t *testing.T) {
	for first := range 256 {
		for i := range 4096 {
			b := []byte{byte(first), graphics[i/64], graphics[i%64], byte(i)}
			for _, size := range []int{1920, 4096, 8000} {
				c := bytes.New(b)
				o := order.Get(c, size)
				if c.Err() != nil {
					continue
				}
				if got, err := order.Put(o, size); err != nil || !slices.Equal(got, b[:c.At()]) {
					t.Fatalf("%x: read %v, written %x and %v", b, o, got, err)
				}
			}
		}
	}
}

// P7.3: many orders, one behind the other, are read as they were; behind characters others are read with them.
func TestManyThereAndBack(t *testing.T) {
	for _, size := range edges {
		var b []byte
		var want []api.Order
		for _, o := range rights(size) {
			part, err := order.Put(o, size)
			if err != nil {
				t.Fatalf("%v: %v", o, err)
			}
			b = append(b, part...)
			if last := len(want) - 1; o.Kind == api.Text && last >= 0 && want[last].Kind == api.Text {
				want[last].Text = slices.Concat(want[last].Text, o.Text)
				continue
			}
			want = append(want, o)
		}
		c := bytes.New(b)
		for i, o := range want {
			if got := order.Get(c, size); !alike(got, o) || c.Err() != nil {
				t.Fatalf("size %d, order %d: %v and %v, not %v", size, i, got, c.Err(), o)
			}
		}
		if c.Left() != 0 {
			t.Fatalf("size %d: %d bytes are left", size, c.Left())
		}
	}
}

// P7.2: what is written, cut short at every place, from every place.
func TestGetCut(t *testing.T) {
	for _, size := range edges {
		for _, o := range rights(size) {
			if len(o.Text) > 300 {
				continue
			}
			b := written(o, size)
			for n := range len(b) {
				for _, before := range befores {
					checkGet(t, slices.Concat(before, b[:n]), len(before), size)
				}
				if o.Kind == api.Text && n > 0 {
					continue // fewer characters are an order too
				}
				c := bytes.New(b[:n])
				if got := order.Get(c, size); !alike(got, api.Order{}) {
					t.Fatalf("%x: %v", b[:n], got)
				}
				if !errors.Is(c.Err(), api.ErrCut) {
					t.Fatalf("%x: %v", b[:n], c.Err())
				}
			}
		}
	}
}

// P7.2: every byte as an attribute's: what is none is ErrByte, at that byte, which isn't taken.
func TestGetAttributes(t *testing.T) {
	none := 0
	for i := range 256 {
		for _, before := range befores {
			for _, tail := range [][]byte{nil, {0x40}, {0xff, 0xff}} {
				for _, size := range edges {
					checkGet(t, slices.Concat(before, []byte{0x1d, byte(i)}, tail), len(before), size)
				}
			}
		}
		c := bytes.New([]byte{0x1d, byte(i), 0x13})
		if order.Get(c, 1920); c.Err() != nil {
			none++
			checkStopped(t, c, api.ErrByte, 1, 2)
		}
	}
	if none != 256-32 {
		t.Errorf("%d bytes are no attribute's", none)
	}
}

// P7.2: every byte as a Repeat's character: what is none is ErrByte, at that byte, which isn't taken.
func TestGetRepeatChars(t *testing.T) {
	for i := range 256 {
		for _, size := range edges {
			for _, a := range addresses(size) {
				b := slices.Concat([]byte{0x3c}, addrBytes(a, size), []byte{byte(i)})
				for _, before := range befores {
					checkGet(t, slices.Concat(before, b), len(before), size)
					checkGet(t, slices.Concat(before, b, []byte{0x40, 0x13}), len(before), size)
				}
				c := bytes.New(append(b, 0x40))
				if order.Get(c, size); !isChar(byte(i)) {
					checkStopped(t, c, api.ErrByte, 3, 2)
				}
			}
		}
	}
}

// P7.2: bytes that are no address, behind each order that has one: chapter 6's error, where the address begins.
func TestGetNoAddress(t *testing.T) {
	for _, x := range []struct {
		size  int
		b     []byte
		want  api.Errno
		inner int // the place that the error which is wrapped tells
	}{
		{1, []byte{0x40, 0xc1}, api.ErrAddr, -1},
		{1, []byte{0xc1, 0x40}, api.ErrAddr, -1},
		{1, []byte{0, 0}, api.ErrByte, 0},
		{1, []byte{0x40, 0}, api.ErrByte, 1},
		{4095, []byte{0x7f, 0x7f}, api.ErrAddr, -1},
		{4096, []byte{0xff, 0xff}, api.ErrByte, 0},
		{4096, []byte{0x7f, 0xff}, api.ErrByte, 1},
		{4097, []byte{0x10, 1}, api.ErrAddr, -1},
		{4097, []byte{0x3f, 0xff}, api.ErrAddr, -1},
		{4097, []byte{0x40, 0}, api.ErrByte, 0},
		{16383, []byte{0x3f, 0xff}, api.ErrAddr, -1},
		{16383, []byte{0x40, 0x40}, api.ErrByte, 0},
		{16383, []byte{0xff, 0}, api.ErrByte, 0},
	} {
		for _, first := range []byte{0x11, 0x3c, 0x12} {
			for _, before := range befores {
				at := len(before) + 1
				c := cursorAt(t, slices.Concat(before, []byte{first}, x.b, []byte{0x40, 0x13}), len(before))
				if o := order.Get(c, x.size); !alike(o, api.Order{}) {
					t.Fatalf("%x, size %d: %v", x.b, x.size, o)
				}
				if inner := api.Where(errors.Unwrap(c.Err())); inner != x.inner {
					t.Fatalf("%x, size %d: what is wrapped is at %d, not %d", x.b, x.size, inner, x.inner)
				}
				checkStopped(t, c, x.want, at, 4)
			}
		}
	}
}

// P7.2: addresses about 0 and the size, and all of two bytes, behind each order that has one.
func TestGetAddresses(t *testing.T) {
	for _, size := range sizes {
		for _, first := range []byte{0x11, 0x3c, 0x12} {
			for i := range 16384 {
				b := []byte{first, byte(i >> 8), byte(i), 0xc1}
				if size <= 4096 {
					b[1], b[2] = graphics[i>>6&63], graphics[i&63]
				}
				checkGet(t, b, 0, size)
			}
		}
	}
}

// P7.2: of a cursor with an error nothing is taken, whichever bytes are left, and the error stays.
func TestGetStopped(t *testing.T) {
	for _, b := range [][]byte{nil, {0x40}, {0x40, 0xc1, 0x13}, {0x13, 0x13, 0x13}, {0x05, 0x05}, {0x1d, 0x40, 0x40}, {0x11, 0xc1, 0x50}, {0x3c, 0x40, 0x40, 0x40, 0x40}, {0x12, 0x40, 0x40}, {0xff, 0xff}, {0, 0, 0}} {
		for at := range len(b) + 1 {
			for n := api.ErrArg; n <= api.ErrNone; n++ {
				c := cursorAt(t, b, at)
				c.Fail(n)
				checkStopped(t, c, n, at, len(b)-at)
			}
			c := cursorAt(t, b, at)
			c.Take(len(b) + 1)
			checkStopped(t, c, api.ErrCut, at, len(b)-at)
			c = cursorAt(t, b, at)
			c.Fail(&api.Spot{At: 77, Err: api.ErrTag})
			checkStopped(t, c, api.ErrTag, at, len(b)-at)
		}
	}
}

// P7.2: Get at the end meets ErrCut there, behind whatever was taken.
func TestGetEnd(t *testing.T) {
	for _, size := range edges {
		for _, o := range rights(size) {
			b := written(o, size)
			c := cursorAt(t, b, len(b))
			if got := order.Get(c, size); !alike(got, api.Order{}) {
				t.Fatalf("%v at the end", got)
			}
			checkStopped(t, c, api.ErrCut, len(b), 0)
		}
	}
}

// P7.2: of characters as many as there are, few and very many, and no more.
func TestGetText(t *testing.T) {
	for _, text := range append(texts(), chars(), slices.Repeat(chars(), 100)) {
		for i := range 256 {
			if isChar(byte(i)) {
				continue
			}
			c := bytes.New(slices.Concat(text, []byte{byte(i)}, text))
			if o := order.Get(c, 1920); !alike(o, api.Order{Kind: api.Text, Text: text}) || c.Err() != nil || c.At() != len(text) {
				t.Fatalf("%d characters and %x: %d, at %d, %v", len(text), i, len(o.Text), c.At(), c.Err())
			}
		}
	}
}

// P7.4: the bytes that a cursor was made of stay, and what is read shares no memory with them or with what is left.
func TestGetAnswersNew(t *testing.T) {
	b := []byte{0xc1, 0xc2, 0x13, 0xc3, 0xc4, 0x05, 0xc5}
	before := slices.Clone(b)
	c := bytes.New(b)
	first := order.Get(c, 1920)
	first.Text[0] = 0xff
	_ = append(first.Text, 0xff, 0xff, 0xff, 0xff)
	order.Get(c, 1920)
	b[3] = 0xff
	second := order.Get(c, 1920)
	if c.Err() != nil || !slices.Equal(second.Text, []byte{0xc3, 0xc4}) {
		t.Fatalf("%v and %v", second, c.Err())
	}
	b[3] = before[3]
	second.Text[1] = 0x11
	_ = append(second.Text, 0x1d, 0x1d)
	order.Get(c, 1920)
	third := order.Get(c, 1920)
	if c.Err() != nil || !slices.Equal(third.Text, []byte{0xc5}) {
		t.Fatalf("%v and %v", third, c.Err())
	}
	if !slices.Equal(first.Text, []byte{0xff, 0xc2}) || !slices.Equal(second.Text, []byte{0xc3, 0x11}) || !slices.Equal(b, before) {
		t.Errorf("%x, %x and %x", first.Text, second.Text, b)
	}
}

// P7.4: cursors over the same bytes are read apart.
func TestGetApart(t *testing.T) {
	b := []byte{0xc1, 0xc2, 0x11, 0xc1, 0x50, 0xff}
	one, other := bytes.New(b), bytes.New(b)
	first := order.Get(one, 1920)
	first.Text[0] = 0x40
	if got := order.Get(other, 1920); !alike(got, api.Order{Kind: api.Text, Text: b[:2]}) {
		t.Errorf("%v", got)
	}
	order.Get(one, 1920)
	order.Get(one, 1920)
	checkMet(t, one, api.ErrOrder, 5)
	if got := order.Get(other, 1920); !alike(got, api.Order{Kind: api.Set, Addr: 80}) || other.Err() != nil {
		t.Errorf("%v and %v", got, other.Err())
	}
}

// P1: of a cursor that nobody made Get takes nothing, and doesn't panic.
func TestGetNoCursor(t *testing.T) {
	for _, size := range []int{1920, 8000, 0, math.MinInt} {
		if o := order.Get(nil, size); !alike(o, api.Order{}) {
			t.Errorf("%v", o)
		}
		c := new(bytes.Cursor)
		if o := order.Get(c, size); !alike(o, api.Order{}) {
			t.Errorf("%v", o)
		}
		checkStopped(t, c, api.ErrCut, 0, 0)
	}
}
