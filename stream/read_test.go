package stream_test

import (
	"slices"
	"testing"

	"shutter/api"
	"shutter/stream"
)

// P8.2: bytes that are no command's, worked out by hand: the error and its place.
func TestReadErrorExamples(t *testing.T) {
	for _, x := range []struct {
		size int
		b    []byte
		want api.Errno
		at   int
	}{
		{80, nil, api.ErrCut, 0},
		{80, []byte{}, api.ErrCut, 0},
		{80, []byte{0}, api.ErrOrder, 0},
		{80, []byte{0xf3}, api.ErrOrder, 0},
		{80, []byte{0xff, 0xc2, 0x01}, api.ErrOrder, 0},
		{80, []byte{0x6f, 0x40}, api.ErrArg, 1},
		{80, []byte{0xf2, 0xff, 0xff}, api.ErrArg, 1},
		{80, []byte{0xf6, 0x40, 0x11, 0x40, 0x40}, api.ErrArg, 1},
		{80, []byte{0xf1}, api.ErrCut, 1},
		{80, []byte{0xf5}, api.ErrCut, 1},
		{80, []byte{0xf1, 0xc8}, api.ErrByte, 1},
		{80, []byte{0xf5, 0}, api.ErrByte, 1},
		{80, []byte{0xf5, 0x3f, 0x01}, api.ErrByte, 1},
		{80, []byte{0xf1, 0x40, 0xff}, api.ErrOrder, 2},
		{80, []byte{0xf1, 0x40, 0x11}, api.ErrCut, 3},
		{80, []byte{0xf1, 0x40, 0x11, 0x40}, api.ErrCut, 3},
		{80, []byte{0xf1, 0x40, 0x11, 0xc1, 0x50}, api.ErrAddr, 3},
		{81, []byte{0xf1, 0x40, 0x11, 0xc1, 0x50, 0x1d, 0xc2}, api.ErrByte, 6},
		{81, []byte{0xf5, 0xc7, 0xc1, 0xc2, 0x3c, 0xc1, 0x50, 0x01}, api.ErrByte, 7},
		{81, []byte{0xf5, 0xc7, 0xc1, 0xc2, 0x3c, 0xc1, 0x50}, api.ErrCut, 7},
		{81, []byte{0xf5, 0xc7, 0xc1, 0xc2, 0x3c, 0xc1, 0x01, 0xc1, 0xff}, api.ErrByte, 5},
		{8000, []byte{0xf1, 0x40, 0x12, 0x40, 0}, api.ErrByte, 3},
		{8000, []byte{0xf1, 0x40, 0x13, 0x12, 0x1f, 0x40}, api.ErrAddr, 4},
	} {
		checkNoRead(t, x.b, x.size, x.want, x.at)
	}
}

// P8.2: every first byte, alone and with more behind it, which may or may not stand there.
func TestReadFirstBytes(t *testing.T) {
	for _, size := range edges {
		_, long := command(0, 0, apart(rights(size)))
		tails := [][]byte{nil, {0x40}, {0}, {0xff}, {0xc8}, {0xc7, 0x13}, {0x40, 0xff}, {0x40, 0x11}, {0xc1, 0x1d, 0x40, 0xc1}, long[1:], make([]byte, 8191)}
		for i := range 256 {
			for _, tail := range tails {
				b := slices.Concat([]byte{byte(i)}, tail)
				checkBytes(t, b, size)
				switch {
				case !isCmd(i):
					checkNoRead(t, b, size, api.ErrOrder, 0)
				case !isWriter(i) && len(tail) > 0:
					checkNoRead(t, b, size, api.ErrArg, 1)
				case !isWriter(i):
					checkRead(t, b, size, api.Out{Cmd: i})
				case len(tail) == 0:
					checkNoRead(t, b, size, api.ErrCut, 1)
				}
			}
		}
	}
}

// P8.2: behind every first byte every second one, and orders behind them, right and wrong.
func TestReadSecondBytes(t *testing.T) {
	for i := range 65536 {
		for j, tail := range [][]byte{nil, {0xc1, 0x13}, {0x13, 0x1d, 0}, {0x01}} {
			checkBytes(t, slices.Concat([]byte{byte(i >> 8), byte(i)}, tail), edges[(i+j)%len(edges)])
		}
	}
	for _, size := range edges {
		for _, cmd := range writers {
			for i := range 256 {
				wcc := slices.Index(graphics[:8], byte(i))
				for _, tail := range [][]byte{nil, {0x05}, {0xff}} {
					b := slices.Concat([]byte{byte(cmd), byte(i)}, tail)
					switch {
					case wcc < 0:
						checkNoRead(t, b, size, api.ErrByte, 1)
					case len(tail) == 0:
						checkRead(t, b, size, api.Out{Cmd: cmd, Wcc: wccOf(wcc)})
					case tail[0] == 0x05:
						checkRead(t, b, size, api.Out{Cmd: cmd, Wcc: wccOf(wcc), Orders: []api.Order{{Kind: api.Tab}}})
					default:
						checkNoRead(t, b, size, api.ErrOrder, 2)
					}
				}
			}
		}
	}
}

// P8.2: every run of up to five bytes out of those that mean something, behind a write's two and alone.
func TestReadRuns(t *testing.T) {
	kinds := []byte{0xf5, 0xc2, 0x1d, 0x11, 0x13, 0x3c, 0x12, 0x40, 0, 0xff}
	for n := range 6 {
		b := append([]byte{0xf1, 0x40}, make([]byte, n)...)
		runs := 1
		for range n {
			runs *= len(kinds)
		}
		for i := range runs {
			for j := range n {
				b[2+j] = kinds[i%len(kinds)]
				i /= len(kinds)
			}
			checkBytes(t, b, 20)
			checkBytes(t, b, 8000)
			checkBytes(t, b[2:], 80)
		}
	}
}

// P8.2: what is written, cut short at every place: fewer orders, fewer characters, or ErrCut where the bytes end too early.
func TestReadCut(t *testing.T) {
	for _, size := range sizes {
		list := apart(rights(size))
		for _, cmd := range writers {
			_, whole := command(cmd, 3, list)
			checkNoRead(t, whole[:0], size, api.ErrCut, 0)
			checkNoRead(t, whole[:1], size, api.ErrCut, 1)
			for i, last := range list {
				o, b := command(cmd, 3, list[:i])
				checkRead(t, whole[:len(b)], size, o)
				for n := 1; n < len(last.b); n++ {
					cut := whole[:len(b)+n]
					switch {
					case last.o.Kind == api.Text:
						fewer := api.Order{Kind: api.Text, Text: last.b[:n]}
						checkRead(t, cut, size, api.Out{Cmd: cmd, Wcc: wccOf(3), Orders: append(slices.Clone(o.Orders), fewer)})
					case n < 3:
						checkNoRead(t, cut, size, api.ErrCut, len(b)+1) // where the attribute or the address should begin
					default:
						checkNoRead(t, cut, size, api.ErrCut, len(b)+3) // where the character should stand
					}
				}
			}
		}
		for _, cmd := range others {
			checkNoRead(t, []byte{byte(cmd)}[:0], size, api.ErrCut, 0)
		}
	}
}

// P8.2: bytes that are no order, at the first and at every later order's place: the error, where layer 7 meets it.
func TestReadWrongOrder(t *testing.T) {
	for _, size := range sizes {
		list := apart(rights(size))
		for _, cmd := range writers {
			for _, x := range wrongReads(size) {
				for i := range len(list) + 1 {
					_, b := command(cmd, i%8, list[:i])
					checkNoRead(t, slices.Concat(b, x.b), size, x.code, len(b)+x.at)
				}
			}
		}
	}
}

// P8.2: of several orders that are wrong the first one is told.
func TestReadFirstWrongOrder(t *testing.T) {
	for _, size := range edges {
		for _, x := range wrongReads(size) {
			if x.code == api.ErrCut {
				continue // nothing may stand behind it
			}
			for _, y := range wrongReads(size) {
				checkNoRead(t, slices.Concat([]byte{0xf1, 0x40, 0x13}, x.b, y.b), size, x.code, 3+x.at)
			}
		}
	}
}

// P8.2: of just MaxWire bytes what stands there is read, right and wrong.
func TestReadMaxWire(t *testing.T) {
	for _, size := range edges {
		for _, cmd := range writers {
			for _, list := range filled(8190, size) {
				o, b := command(cmd, 6, list)
				if len(b) != 8192 {
					t.Fatalf("%d bytes", len(b))
				}
				checkRead(t, b, size, o)
			}
			for _, x := range wrongReads(size) {
				for _, list := range filled(8190-len(x.b), size) {
					_, b := command(cmd, 6, list)
					checkNoRead(t, append(b, x.b...), size, x.code, len(b)+x.at)
				}
			}
		}
		for _, first := range []byte{0, 0x40, 0xf3, 0xff} {
			checkNoRead(t, append([]byte{first}, make([]byte, 8191)...), size, api.ErrOrder, 0)
		}
		for _, cmd := range others {
			checkNoRead(t, append([]byte{byte(cmd)}, make([]byte, 8191)...), size, api.ErrArg, 1)
		}
		checkNoRead(t, append([]byte{0xf1, 0xc8}, make([]byte, 8190)...), size, api.ErrByte, 1)
	}
}

// P8.2: of more bytes than MaxWire it is ErrLong, at MaxWire, whatever they are.
func TestReadLong(t *testing.T) {
	for _, size := range edges {
		for _, n := range []int{8193, 8194, 16384, 16385, 65536, 65538, 200000} {
			for _, first := range [][]byte{{0xf1, 0x40}, {0xf5, 0xc7}, {0xf1, 0xc8}, {0x6f}, {0xf2}, {0xf6}, {0}, {0xff}, {0xf1, 0x40, 0x01}} {
				for _, fill := range []byte{0x40, 0x05, 0x01, 0xff} {
					b := append(slices.Clone(first), slices.Repeat([]byte{fill}, n-len(first))...)
					checkNoRead(t, b, size, api.ErrLong, 8192)
				}
			}
			for _, list := range filled(n-2, size) {
				_, b := command(0xf5, 1, list)
				checkNoRead(t, b, size, api.ErrLong, 8192)
			}
		}
	}
}

// P8.2: what stands behind the end of the bytes in their memory is not read.
func TestReadEnds(t *testing.T) {
	for _, size := range edges {
		_, whole := command(0xf1, 2, apart(rights(size)))
		for n := range len(whole) {
			checkBytes(t, whole[:n], size)
			checkBytes(t, slices.Clip(slices.Clone(whole[:n])), size)
		}
		for _, cmd := range others {
			checkRead(t, []byte{byte(cmd), 0x40, 0x40}[:1], size, api.Out{Cmd: cmd})
		}
	}
}

// P8.4: what is handed in to Read stays, with what stands behind it in its memory.
func TestReadHandedInStays(t *testing.T) {
	_, whole := command(0xf5, 7, apart(rights(80)))
	room := append(slices.Clone(whole), 0xaa, 0xbb, 0xcc)
	before := slices.Clone(room)
	for n := range len(room) {
		o, _ := stream.Read(room[:n], 80)
		for _, x := range o.Orders {
			for i := range x.Text {
				x.Text[i] ^= 0xff
			}
			_ = append(x.Text, 0xff, 0xff, 0xff)
		}
		if !slices.Equal(room, before) {
			t.Fatalf("%d: of %x there is %x", n, before, room)
		}
	}
}

// P8.4: what Read answers shares no memory with the bytes, with what it answered before, nor its texts with one another.
func TestReadAnswersNew(t *testing.T) {
	b := []byte{0xf1, 0xc2, 0xc1, 0xc2, 0x13, 0xc3, 0x05, 0xc4, 0xc5}
	want := api.Out{Cmd: 0xf1, Wcc: wccOf(2), Orders: []api.Order{
		{Kind: api.Text, Text: []byte{0xc1, 0xc2}}, {Kind: api.Cursor}, {Kind: api.Text, Text: []byte{0xc3}}, {Kind: api.Tab}, {Kind: api.Text, Text: []byte{0xc4, 0xc5}},
	}}
	first, _ := stream.Read(b, 80)
	second, _ := stream.Read(b, 80)
	for i := range first.Orders {
		text := append(first.Orders[i].Text, 0xff, 0xff, 0xff, 0xff)
		first.Orders[i] = api.Order{Kind: api.Text, Text: text}
		if i > 0 {
			continue
		}
		text[0] = 0xff
		if third, err := stream.Read(b, 80); err != nil || !alike(third, want) {
			t.Fatalf("%v and %v", third, err)
		}
	}
	for i := range b {
		b[i] = 0xee
	}
	if !alike(second, want) {
		t.Errorf("%v", second)
	}
	second.Orders[0].Text[0] = 0x40
	_ = append(second.Orders[0].Text, 0x41, 0x42, 0x43, 0x44)
	if string(second.Orders[2].Text) != "\xc3" || string(second.Orders[4].Text) != "\xc4\xc5" {
		t.Errorf("%v", second)
	}
	if string(first.Orders[2].Text) != "\xc3\xff\xff\xff\xff" || string(first.Orders[4].Text) != "\xc4\xc5\xff\xff\xff\xff" {
		t.Errorf("%v", first)
	}
}

// P8.2: what Read answers hangs on its arguments alone, whatever was asked ahead.
func TestReadAgain(t *testing.T) {
	for range 2 {
		for _, size := range edges {
			o, b := command(0xf1, 5, apart(rights(size)))
			checkRead(t, b, size, o)
			checkNoRead(t, append(slices.Clone(b), 0x01), size, api.ErrOrder, len(b))
			checkRead(t, []byte{0xf2}, size, api.Out{Cmd: 0xf2})
			checkNoRead(t, nil, size, api.ErrCut, 0)
			checkRead(t, []byte{0xf5, 0x40}, size, api.Out{Cmd: 0xf5})
		}
	}
}
