package order_test

import (
	"math"
	"math/bits"
	"slices"
	"testing"

	"shutter/api"
	"shutter/order"
)

// P7.1: orders and their bytes, worked out by hand; the chapter's example first.
func TestPutExamples(t *testing.T) {
	for _, c := range []struct {
		o    api.Order
		size int
		want []byte
	}{
		{api.Order{Kind: api.Set, Addr: 80}, 1920, []byte{0x11, 0xc1, 0x50}},
		{api.Order{Kind: api.Set, Addr: 5000}, 8000, []byte{0x11, 0x13, 0x88}},
		{api.Order{Kind: api.Set}, 1, []byte{0x11, 0x40, 0x40}},
		{api.Order{Kind: api.Set, Addr: 4095}, 4096, []byte{0x11, 0x7f, 0x7f}},
		{api.Order{Kind: api.Set, Addr: 4096}, 4097, []byte{0x11, 0x10, 0}},
		{api.Order{Kind: api.Set, Addr: 16382}, 16383, []byte{0x11, 0x3f, 0xfe}},
		{api.Order{Kind: api.Erase}, 1920, []byte{0x12, 0x40, 0x40}},
		{api.Order{Kind: api.Erase, Addr: 1919}, 1920, []byte{0x12, 0x5d, 0x7f}},
		{api.Order{Kind: api.Repeat, Addr: 1, Char: 0x5c}, 1920, []byte{0x3c, 0x40, 0xc1, 0x5c}},
		{api.Order{Kind: api.Repeat, Addr: 80}, 1920, []byte{0x3c, 0xc1, 0x50, 0}},
		{api.Order{Kind: api.Repeat, Addr: 5000, Char: 0xfe}, 8000, []byte{0x3c, 0x13, 0x88, 0xfe}},
		{api.Order{Kind: api.Start}, 1, []byte{0x1d, 0x40}},
		{api.Order{Kind: api.Start, Attr: api.Attr{Protected: true}}, 1920, []byte{0x1d, 0x60}},
		{api.Order{Kind: api.Start, Attr: api.Attr{Protected: true, Numeric: true, Show: 3, Modified: true}}, 16383, []byte{0x1d, 0x7d}},
		{api.Order{Kind: api.Cursor}, 1, []byte{0x13}},
		{api.Order{Kind: api.Tab}, 16383, []byte{0x05}},
		{api.Order{Kind: api.Text, Text: []byte{0}}, 1, []byte{0}},
		{api.Order{Kind: api.Text, Text: []byte{0xc1, 0, 0x1c, 0x1e, 0xfe}}, 4097, []byte{0xc1, 0, 0x1c, 0x1e, 0xfe}},
	} {
		if err := order.Right(c.o, c.size); err != nil {
			t.Errorf("Right(%v, %d): %v", c.o, c.size, err)
		}
		if b, err := order.Put(c.o, c.size); err != nil || !slices.Equal(b, c.want) {
			t.Errorf("Put(%v, %d): %x and %v, not %x", c.o, c.size, b, err, c.want)
		}
	}
}

// P7.1: what is wrong with an order, worked out by hand: of several faults the first that is named.
func TestRightExamples(t *testing.T) {
	for _, c := range []struct {
		o    api.Order
		size int
		want api.Errno
	}{
		{api.Order{}, 1920, api.ErrOrder},
		{api.Order{Kind: 8, Addr: -1, Char: 1, Text: []byte{1}, Attr: api.Attr{Show: 4}}, 1920, api.ErrOrder},
		{api.Order{Kind: -1, Text: []byte{0x40}}, 1920, api.ErrOrder},
		{api.Order{Kind: api.Text}, 1920, api.ErrArg},
		{api.Order{Kind: api.Text, Text: []byte{}}, 1920, api.ErrArg},
		{api.Order{Kind: api.Text, Text: []byte{0x40, 0x3f}}, 1920, api.ErrArg},
		{api.Order{Kind: api.Text, Text: []byte{0x40}, Addr: 1920}, 1920, api.ErrArg},
		{api.Order{Kind: api.Text, Text: []byte{0x40}, Char: 0x40}, 1920, api.ErrArg},
		{api.Order{Kind: api.Start, Attr: api.Attr{Show: -1}}, 1920, api.ErrArg},
		{api.Order{Kind: api.Start, Addr: 1}, 1920, api.ErrArg},
		{api.Order{Kind: api.Start, Text: []byte{0}}, 1920, api.ErrArg},
		{api.Order{Kind: api.Cursor, Addr: -1}, 1920, api.ErrArg},
		{api.Order{Kind: api.Tab, Attr: api.Attr{Modified: true}}, 1920, api.ErrArg},
		{api.Order{Kind: api.Set, Addr: 1920}, 1920, api.ErrAddr},
		{api.Order{Kind: api.Set, Addr: 1920, Char: 0x40}, 1920, api.ErrArg},
		{api.Order{Kind: api.Erase, Addr: -1}, 1920, api.ErrAddr},
		{api.Order{Kind: api.Erase, Addr: -1, Attr: api.Attr{Numeric: true}}, 1920, api.ErrArg},
		{api.Order{Kind: api.Repeat, Addr: 1920, Char: 0xff}, 1920, api.ErrArg},
		{api.Order{Kind: api.Repeat, Addr: 1920, Text: []byte{0x40}}, 1920, api.ErrArg},
		{api.Order{Kind: api.Repeat, Addr: 1920}, 1920, api.ErrAddr},
		{api.Order{Kind: api.Repeat, Addr: 0, Char: 0x3f}, 1920, api.ErrArg},
	} {
		checkNumber(t, order.Right(c.o, c.size), c.want)
		b, err := order.Put(c.o, c.size)
		if len(b) != 0 {
			t.Errorf("Put(%v, %d): %x beside an error", c.o, c.size, b)
		}
		checkNumber(t, err, c.want)
	}
}

// P7.1: nothing is wrong with any right order, and Put is its bytes.
func TestPutRight(t *testing.T) {
	for _, size := range sizes {
		for _, o := range rights(size) {
			if fault(o, size) != 0 {
				t.Fatalf("%v isn't right for %d", o, size)
			}
			checkPut(t, o, size)
		}
	}
}

// P7.1: every kind from 0 to 8, and kinds far outside, with and without each part, right and wrong.
func TestPutEveryKind(t *testing.T) {
	kinds := []int{1, 2, 3, 4, 5, 6, 7}
	kinds = append(kinds, noKinds...)
	for _, size := range edges {
		places := append(addresses(size), -1, size, size+1, math.MinInt, math.MaxInt)
		for _, kind := range kinds {
			for _, text := range [][]byte{nil, {}, {0}, {0xc1}, {0x11}, {0x40, 0xff}} {
				for _, a := range []api.Attr{{}, {Protected: true}, {Numeric: true}, {Modified: true}, {Show: 3}, {Show: 4}, {Show: -1}} {
					for _, place := range places {
						for _, c := range []byte{0, 0x40, 0xfe, 0xff, 1, 0x13} {
							checkPut(t, api.Order{Kind: kind, Text: text, Attr: a, Addr: place, Char: c}, size)
						}
					}
				}
			}
		}
	}
}

// P7.1: an order of no kind is ErrOrder, whatever parts it has.
func TestPutNoKind(t *testing.T) {
	for _, size := range sizes {
		for _, kind := range noKinds {
			for _, o := range rights(size) {
				o.Kind = kind
				checkNumber(t, order.Right(o, size), api.ErrOrder)
				checkPut(t, o, size)
			}
		}
	}
}

// foreign is all that may stand in a part, by the part's name: each alone.
func foreign(size int) map[string][]api.Order {
	list := map[string][]api.Order{}
	for i := range 256 {
		list["text"] = append(list["text"], api.Order{Text: []byte{byte(i)}}, api.Order{Text: []byte{0x40, byte(i)}})
		if i > 0 {
			list["char"] = append(list["char"], api.Order{Char: byte(i)})
		}
	}
	for _, a := range append(attrs(), api.Attr{Show: 4}, api.Attr{Show: -1}, api.Attr{Show: math.MinInt}, api.Attr{Show: math.MaxInt}) {
		if a != (api.Attr{}) {
			list["attr"] = append(list["attr"], api.Order{Attr: a})
		}
	}
	for _, a := range append(addresses(size), noAddresses(size)...) {
		if a != 0 {
			list["addr"] = append(list["addr"], api.Order{Addr: a})
		}
	}
	return list
}

// P7.1: each kind with each part that it hasn't, whatever stands there, is ErrArg.
func TestPutForeignPart(t *testing.T) {
	has := map[int][]string{
		api.Text: {"text"}, api.Start: {"attr"}, api.Set: {"addr"}, api.Cursor: {}, api.Tab: {},
		api.Repeat: {"addr", "char"}, api.Erase: {"addr"},
	}
	for _, size := range edges {
		for kind, parts := range has {
			o := api.Order{Kind: kind}
			if kind == api.Text {
				o.Text = []byte{0xc1}
			}
			checkPut(t, o, size)
			for part, list := range foreign(size) {
				if slices.Contains(parts, part) {
					continue
				}
				for _, x := range list {
					both := api.Order{Kind: kind, Text: append(slices.Clone(o.Text), x.Text...), Attr: x.Attr, Addr: x.Addr, Char: x.Char}
					checkNumber(t, order.Right(both, size), api.ErrArg)
					checkPut(t, both, size)
				}
			}
		}
	}
}

// P7.1: an empty text, nil or not, is no part: ErrArg of characters, nothing of the others.
func TestPutEmptyText(t *testing.T) {
	for _, size := range sizes {
		for _, empty := range [][]byte{nil, {}, make([]byte, 0, 9)} {
			for kind := api.Text; kind <= api.Erase; kind++ {
				o := api.Order{Kind: kind, Text: empty}
				checkPut(t, o, size)
				if err := order.Right(o, size); (err != nil) != (kind == api.Text) {
					t.Fatalf("%v: %v", o, err)
				}
			}
		}
	}
}

// P7.1: every byte in a text: first, within and last.
func TestPutTextBytes(t *testing.T) {
	for i := range 256 {
		b := byte(i)
		for _, text := range [][]byte{{b}, {b, 0x40}, {0x40, b}, {0, b, 0}, {0x40, 0x40, b, 0x40, 0x40}, append(slices.Repeat([]byte{0xc1}, 9000), b)} {
			for _, size := range edges {
				o := api.Order{Kind: api.Text, Text: text}
				checkPut(t, o, size)
				if right := order.Right(o, size) == nil; right != isChar(b) {
					t.Fatalf("%x: right is %t", b, right)
				}
			}
		}
	}
}

// P7.1: every byte as the character of a Repeat.
func TestPutChars(t *testing.T) {
	for i := range 256 {
		for _, size := range edges {
			for _, a := range append(addresses(size), -1, size) {
				checkPut(t, api.Order{Kind: api.Repeat, Addr: a, Char: byte(i)}, size)
			}
		}
	}
}

// P7.1: Shows about 0 to 3, and far outside, up to the least and the greatest int.
func TestPutShows(t *testing.T) {
	shows := []int{math.MinInt, math.MinInt + 1, math.MinInt32, math.MaxInt32, math.MaxInt - 1, math.MaxInt}
	for n := -300; n <= 300; n++ {
		shows = append(shows, n)
	}
	for shift := 2; shift < bits.UintSize-1; shift++ {
		for n := range 4 {
			shows = append(shows, 1<<shift|n, -1<<shift|n)
		}
	}
	for _, show := range shows {
		for i := range 8 {
			a := api.Attr{Protected: i&4 != 0, Numeric: i&2 != 0, Show: show, Modified: i&1 != 0}
			for _, size := range edges {
				checkPut(t, api.Order{Kind: api.Start, Attr: a}, size)
			}
		}
	}
}

// P7.1: addresses of all orders that have one: of every cell, and about 0 and the size, and far outside.
func TestPutAddresses(t *testing.T) {
	for _, size := range sizes {
		for _, kind := range []int{api.Set, api.Repeat, api.Erase} {
			for a := -5; a < size+5; a++ {
				checkPut(t, api.Order{Kind: kind, Addr: a}, size)
			}
			for _, a := range noAddresses(size) {
				checkNumber(t, order.Right(api.Order{Kind: kind, Addr: a}, size), api.ErrAddr)
				checkPut(t, api.Order{Kind: kind, Addr: a}, size)
			}
		}
	}
}

// P7.1: what Right and Put answer hangs on their arguments alone, whatever was asked ahead.
func TestPutAgain(t *testing.T) {
	for _, size := range edges {
		list := append(rights(size), api.Order{}, api.Order{Kind: 8}, api.Order{Kind: api.Text}, api.Order{Kind: api.Set, Addr: size})
		for range 2 {
			for i, o := range list {
				checkPut(t, o, size)
				checkPut(t, list[len(list)-1-i], size)
			}
		}
	}
}

// P7.4: what is handed in to Right and Put stays, with what stands behind it in its memory.
func TestPutHandedInStays(t *testing.T) {
	room := []byte{0xc1, 0, 0x40, 0xaa, 0xbb, 0xcc}
	before := slices.Clone(room)
	for n := range len(room) {
		for _, kind := range []int{api.Text, api.Set, 0} {
			o := api.Order{Kind: kind, Text: room[:n]}
			order.Right(o, 1920)
			b, _ := order.Put(o, 1920)
			for i := range b {
				b[i] ^= 0xff
			}
			_ = append(b, 0xff, 0xff)
			if !slices.Equal(room, before) {
				t.Fatalf("%d of kind %d: of %x there is %x", n, kind, before, room)
			}
		}
	}
}

// P7.4: what Put answers shares no memory with the order, nor with what it answered before.
func TestPutAnswersNew(t *testing.T) {
	text := []byte{0xc1, 0xc2, 0xc3}
	o := api.Order{Kind: api.Text, Text: text}
	first, _ := order.Put(o, 1920)
	second, _ := order.Put(o, 1920)
	first[0] = 0xff
	text[1] = 0x40
	if !slices.Equal(first, []byte{0xff, 0xc2, 0xc3}) || !slices.Equal(second, []byte{0xc1, 0xc2, 0xc3}) {
		t.Errorf("%x and %x", first, second)
	}
	for _, size := range edges {
		for _, o := range rights(size) {
			first, _ := order.Put(o, size)
			for i := range first {
				first[i] ^= 0xff
			}
			_ = append(first, 0xff)
			checkPut(t, o, size)
		}
	}
}

// P1: no call panics at numbers that no size is, of which no more is promised.
func TestNoSize(t *testing.T) {
	for _, size := range []int{0, -1, -1920, 16384, 65536 + 1920, math.MinInt, math.MaxInt} {
		for _, o := range append(rights(1), api.Order{}, api.Order{Kind: 8}, api.Order{Kind: api.Text}) {
			err := order.Right(o, size)
			if b, putErr := order.Put(o, size); api.Code(putErr) != api.Code(err) || err != nil && len(b) != 0 {
				t.Errorf("%v, size %d: Right %v, Put %x and %v", o, size, err, b, putErr)
			}
			c := cursorAt(t, append([]byte{0xff}, written(api.Order{Kind: api.Repeat, Addr: 0, Char: 0x40}, 1920)...), 1)
			if got := order.Get(c, size); c.Err() != nil && !alike(got, api.Order{}) {
				t.Errorf("size %d: %v beside %v", size, got, c.Err())
			}
		}
	}
}
