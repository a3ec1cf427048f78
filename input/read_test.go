package input_test

import (
	"slices"
	"testing"

	"shutter/api"
	"shutter/input"
)

// P9.2: bytes that are no submission's, worked out by hand: the error and its place.
func TestReadErrorExamples(t *testing.T) {
	for _, x := range []struct {
		size int
		b    []byte
		want api.Errno
		at   int
	}{
		{80, nil, api.ErrCut, 0},
		{80, []byte{}, api.ErrCut, 0},
		{80, []byte{0}, api.ErrByte, 0},
		{80, []byte{0x60}, api.ErrByte, 0},
		{80, []byte{0xff, 0x40, 0x40}, api.ErrByte, 0},
		{80, []byte{0xf0, 0x01}, api.ErrByte, 0},
		{80, []byte{0x6d, 0x40}, api.ErrArg, 1},
		{80, []byte{0x6c, 0x40, 0x40}, api.ErrArg, 1},
		{80, []byte{0x6e, 0xff, 0xff, 0x11}, api.ErrArg, 1},
		{80, []byte{0x6b, 0x00}, api.ErrArg, 1},
		{80, []byte{0x7d}, api.ErrCut, 1},
		{80, []byte{0x7d, 0x40}, api.ErrCut, 1},
		{80, []byte{0x7d, 0xff}, api.ErrCut, 1},
		{80, []byte{0x7d, 0xff, 0x40}, api.ErrByte, 1},
		{80, []byte{0x7d, 0x40, 0x00}, api.ErrByte, 1},
		{80, []byte{0x7d, 0xc1, 0x50}, api.ErrAddr, 1},
		{80, []byte{0x7d, 0xc1, 0x50, 0x00}, api.ErrAddr, 1},
		{81, []byte{0x7d, 0xc1, 0x50, 0x00}, api.ErrByte, 3},
		{80, []byte{0xf1, 0x40, 0x40, 0xff, 0x11}, api.ErrByte, 3},
		{80, []byte{0xf1, 0x40, 0x40, 0x1d, 0x40}, api.ErrByte, 3},
		{80, []byte{0xf1, 0x40, 0x40, 0xc1, 0xc2, 0x00}, api.ErrByte, 5},
		{80, []byte{0xf1, 0x40, 0x40, 0xc1, 0x11, 0x40, 0x40}, api.ErrByte, 4},
		{80, []byte{0xf1, 0x40, 0x40, 0x11}, api.ErrCut, 4},
		{80, []byte{0xf1, 0x40, 0x40, 0x11, 0x40}, api.ErrCut, 4},
		{80, []byte{0xf1, 0x40, 0x40, 0x11, 0x11, 0x40}, api.ErrByte, 4},
		{80, []byte{0xf1, 0x40, 0x40, 0x11, 0x40, 0x11}, api.ErrByte, 4},
		{80, []byte{0xf1, 0x40, 0x40, 0x11, 0xc1, 0x50, 0x00}, api.ErrAddr, 4},
		{80, []byte{0xf1, 0x40, 0x40, 0x11, 0x40, 0xc9, 0x00, 0xc1}, api.ErrByte, 6},
		{80, []byte{0xf1, 0x40, 0x40, 0x11, 0x40, 0xc9, 0xc1, 0xff}, api.ErrByte, 7},
		{80, []byte{0xf1, 0x40, 0x40, 0x11, 0x40, 0xc9, 0xc1, 0x11, 0x40}, api.ErrCut, 8},
		{80, []byte{0xf1, 0x40, 0x40, 0x11, 0x40, 0xc9, 0x11, 0xc1, 0x50}, api.ErrAddr, 7},
		{8000, []byte{0xf1, 0x40, 0x00}, api.ErrByte, 1},
		{8000, []byte{0xf1, 0x1f, 0x40, 0x00}, api.ErrAddr, 1},
		{8000, []byte{0xf1, 0x13, 0x88, 0x11, 0x40, 0x00}, api.ErrByte, 4},
		{8000, []byte{0xf1, 0x13, 0x88, 0x11, 0x13, 0x88, 0x40, 0x11, 0x1f, 0x40}, api.ErrAddr, 8},
	} {
		checkNoRead(t, x.b, x.size, x.want, x.at)
	}
}

// P9.2: every first byte, alone and with more behind it, which may or may not stand there.
func TestReadFirstBytes(t *testing.T) {
	for _, size := range edges {
		_, long := submission(0, size-1, rights(size), size)
		tails := [][]byte{nil, {0x40}, {0}, {0xff}, {0x40, 0x40}, {0x00, 0x00}, {0x40, 0xff}, {0xff, 0xff, 0x11}, {0x40, 0x40, 0xc1}, {0x00, 0x00, 0x00}, long[1:], make([]byte, 8191)}
		for i := range 256 {
			for _, tail := range tails {
				b := slices.Concat([]byte{byte(i)}, tail)
				checkBytes(t, b, size)
				switch {
				case isBare(b[0]) && len(tail) > 0:
					checkNoRead(t, b, size, api.ErrArg, 1)
				case isBare(b[0]):
					checkRead(t, b, size, api.In{Aid: byte(i)})
				case !isTeller(b[0]):
					checkNoRead(t, b, size, api.ErrByte, 0)
				case len(tail) < 2:
					checkNoRead(t, b, size, api.ErrCut, 1)
				}
			}
		}
	}
}

// P9.2: behind a bare key nothing may stand, whatever byte it is, or however many.
func TestReadBareWithMore(t *testing.T) {
	for _, size := range edges {
		for _, aid := range bares {
			for i := range 256 {
				checkNoRead(t, []byte{aid, byte(i)}, size, api.ErrArg, 1)
				checkNoRead(t, slices.Concat([]byte{aid, byte(i)}, place(0, size), []byte{0xc1}), size, api.ErrArg, 1)
			}
			in, b := submission(aid, 0, rights(size), size)
			checkNoRead(t, b, size, api.ErrArg, 1)
			checkNoRead(t, b[:3], size, api.ErrArg, 1)
			in.Fields = nil
			checkRead(t, b[:1], size, in)
		}
	}
}

// P9.2: all pairs of bytes as the cursor's address and as a field's, with what is right and what is wrong behind them.
func TestReadAddresses(t *testing.T) {
	for _, size := range edges {
		_, ahead := submission(0xf3, 0, []sample{with(size-1, []byte{0xc1}, size)}, size)
		for i := range 65536 {
			pair := []byte{byte(i >> 8), byte(i)}
			checkBytes(t, []byte{0x7d, pair[0], pair[1]}, size)
			checkBytes(t, slices.Concat(ahead, []byte{0x11}, pair, []byte{0x40}), size)
			if i%7 == 0 {
				checkBytes(t, []byte{0x7d, pair[0], pair[1], 0x01}, size)
				checkBytes(t, slices.Concat(ahead, []byte{0x11}, pair, []byte{0x00}), size)
			}
		}
	}
}

// P9.2: wrong addresses, of the cursor and of fields at every place: chapter 6's error, where the address begins.
func TestReadWrongAddress(t *testing.T) {
	for _, size := range sizes {
		for _, x := range []struct {
			b    []byte
			code api.Errno
		}{
			{nil, api.ErrCut},
			{[]byte{0x00}, api.ErrCut},
			{[]byte{0xff}, api.ErrCut},
			{[]byte{0xff, 0xff}, api.ErrByte},
			{[]byte{0xff, 0x40, 0x11}, api.ErrByte},
			{[]byte{0x41, 0x40, 0xc1}, api.ErrByte},
			{farAddress(size), api.ErrAddr},
			{append(farAddress(size), 0x00), api.ErrAddr},
			{append(farAddress(size), 0xc1, 0xff), api.ErrAddr},
		} {
			if size == 4096 && x.code == api.ErrAddr {
				continue // of which each address that can be written is one
			}
			for _, aid := range tellers {
				checkNoRead(t, slices.Concat([]byte{aid}, x.b), size, x.code, 1)
			}
			list := rights(size)
			for n := range len(list) + 1 {
				_, b := submission(0x7d, 0, list[:n], size)
				checkNoRead(t, slices.Concat(b, []byte{0x11}, x.b), size, x.code, len(b)+1)
			}
		}
	}
	checkNoRead(t, []byte{0x7d, 0x40, 0xff}, 4096, api.ErrByte, 1)
	checkNoRead(t, []byte{0x7d, 0x40, 0x40, 0x11, 0x40, 0xff}, 4096, api.ErrByte, 4)
	checkRead(t, []byte{0x7d, 0x10, 0x00, 0x11, 0x0f, 0xff}, 4097, api.In{Aid: 0x7d, Cursor: 4096, Fields: []api.Entry{{Addr: 4095}}})
}

// farAddress is the bytes of the first address that is no cell; of 4096 cells there are none.
func farAddress(size int) []byte {
	if size == 4096 {
		return nil
	}
	return place(size, size)
}

// P9.2: a letter behind the cursor's address: all letters are the one field without an address, and nothing may stand behind them, a field neither.
func TestReadNoAddress(t *testing.T) {
	for _, size := range edges {
		for _, aid := range tellers {
			for _, text := range [][]byte{{0x40}, {0xc1, 0xc2}, {0x1c, 0x1e, 0xfe}, {0x7d, 0x40, 0x40, 0x6d}, allLetters} {
				b := slices.Concat([]byte{aid}, place(size-1, size), text)
				checkRead(t, b, size, api.In{Aid: aid, Cursor: size - 1, Fields: []api.Entry{{Addr: -1, Text: text}}})
				for _, x := range rights(size) {
					checkNoRead(t, slices.Concat(b, x.b), size, api.ErrByte, len(b))
				}
				for i := range 256 {
					if !isLetter(byte(i)) {
						checkNoRead(t, append(slices.Clone(b), byte(i)), size, api.ErrByte, len(b))
						checkNoRead(t, slices.Concat(b, []byte{byte(i), 0xc1, 0x11}), size, api.ErrByte, len(b))
					}
				}
			}
		}
	}
}

// P9.2: every byte behind the cursor's address, behind a field's address and behind its letters, alone and ahead of others.
func TestReadNextBytes(t *testing.T) {
	for _, size := range edges {
		for _, list := range [][]sample{nil, {with(0, nil, size)}, {with(0, []byte{0xc1, 0x40}, size)}, rights(size)} {
			_, b := submission(0xf8, size-1, list, size)
			for i := range 256 {
				checkBytes(t, append(slices.Clone(b), byte(i)), size)
				for _, tail := range [][]byte{{0xc1}, {0x11}, {0x00}, place(0, size), slices.Concat(place(0, size), []byte{0x40, 0xff})} {
					checkBytes(t, slices.Concat(b, []byte{byte(i)}, tail), size)
				}
				if !isLetter(byte(i)) && i != 0x11 {
					checkNoRead(t, slices.Concat(b, []byte{byte(i)}, place(0, size)), size, api.ErrByte, len(b))
				}
			}
		}
	}
}

// P9.2: every run of up to five bytes out of those that mean something, behind a cursor's address and alone.
func TestReadRuns(t *testing.T) {
	kinds := []byte{0x7d, 0x6d, 0x11, 0x40, 0xc1, 0x1c, 0, 0x13, 0xff}
	for n := range 6 {
		b := append([]byte{0x7d, 0x40, 0x40}, make([]byte, n)...)
		long := append([]byte{0xf1, 0x00, 0x00}, make([]byte, n)...)
		runs := 1
		for range n {
			runs *= len(kinds)
		}
		for i := range runs {
			for j := range n {
				b[3+j] = kinds[i%len(kinds)]
				long[3+j] = b[3+j]
				i /= len(kinds)
			}
			checkBytes(t, b, 80)
			checkBytes(t, long, 8000)
			checkBytes(t, b[3:], 80)
			checkBytes(t, b[3:], 8000)
		}
	}
}

// P9.2: what is written, cut short at every place: fewer fields, fewer letters, or ErrCut where the bytes end too early.
func TestReadCut(t *testing.T) {
	for _, size := range sizes {
		list := rights(size)
		for _, aid := range tellers {
			in, whole := submission(aid, size/2, list, size)
			checkNoRead(t, whole[:0], size, api.ErrCut, 0)
			checkNoRead(t, whole[:1], size, api.ErrCut, 1)
			checkNoRead(t, whole[:2], size, api.ErrCut, 1)
			at := 3
			for i, x := range list {
				checkRead(t, whole[:at], size, api.In{Aid: aid, Cursor: size / 2, Fields: in.Fields[:i]})
				for n := 1; n < len(x.b); n++ {
					if n < 3 {
						checkNoRead(t, whole[:at+n], size, api.ErrCut, at+1) // where the address should begin
						continue
					}
					fewer := append(slices.Clone(in.Fields[:i]), api.Entry{Addr: x.f.Addr, Text: x.b[3:n]})
					checkRead(t, whole[:at+n], size, api.In{Aid: aid, Cursor: size / 2, Fields: fewer})
				}
				at += len(x.b)
			}
			alone := slices.Concat(whole[:3], allLetters)
			for n := range len(allLetters) {
				checkRead(t, alone[:4+n], size, api.In{Aid: aid, Cursor: size / 2, Fields: []api.Entry{{Addr: -1, Text: allLetters[:n+1]}}})
			}
		}
		for _, aid := range bares {
			checkNoRead(t, []byte{aid}[:0], size, api.ErrCut, 0)
		}
	}
}

// P9.2: of several things that are wrong the first one is told.
func TestReadFirstWrong(t *testing.T) {
	for _, size := range edges {
		far := slices.Concat([]byte{0x11, 0xff, 0xff}, place(0, size))
		_, b := submission(0x7d, 0, rights(size), size)
		for _, tail := range [][]byte{{0x00}, {0xff, 0x11}, {0x1d}, far, {0x12, 0x11}} {
			checkNoRead(t, slices.Concat(b, far, tail), size, api.ErrByte, len(b)+1)
			checkNoRead(t, slices.Concat(b, []byte{0x00}, tail), size, api.ErrByte, len(b))
			checkNoRead(t, slices.Concat([]byte{0x7d, 0xff, 0xff}, tail), size, api.ErrByte, 1)
			checkNoRead(t, slices.Concat([]byte{0x60, 0xff, 0xff}, tail), size, api.ErrByte, 0)
		}
		if size != 4096 {
			checkNoRead(t, slices.Concat([]byte{0x7d}, place(size, size), far), size, api.ErrAddr, 1)
			checkNoRead(t, slices.Concat(b, []byte{0x11}, place(size, size), far), size, api.ErrAddr, len(b)+1)
			checkNoRead(t, slices.Concat(b, far, []byte{0x11}, place(size, size)), size, api.ErrByte, len(b)+1)
		}
	}
}

// P9.2: of just MaxWire bytes what stands there is read, right and wrong.
func TestReadMaxWire(t *testing.T) {
	for _, size := range edges {
		for _, aid := range tellers {
			for _, list := range filled(8192, size) {
				in, b := submission(aid, size-1, list, size)
				if len(b) != 8192 {
					t.Fatalf("%d bytes", len(b))
				}
				checkRead(t, b, size, in)
				if size != 4096 {
					checkNoRead(t, slices.Concat(b[:1], place(size, size), b[3:]), size, api.ErrAddr, 1)
				}
			}
			for _, tail := range []struct {
				b    []byte
				code api.Errno
				at   int
			}{{[]byte{0}, api.ErrByte, 0}, {[]byte{0xff, 0xc1}, api.ErrByte, 0}, {[]byte{0x11}, api.ErrCut, 1}, {[]byte{0x11, 0x40}, api.ErrCut, 1}, {[]byte{0x11, 0xff, 0x40}, api.ErrByte, 1}} {
				for name, list := range filled(8192-len(tail.b), size) {
					_, b := submission(aid, 0, list, size)
					if name == "alone" {
						checkNoRead(t, append(b, tail.b...), size, api.ErrByte, len(b))
						continue
					}
					checkNoRead(t, append(b, tail.b...), size, tail.code, len(b)+tail.at)
				}
			}
		}
		for _, first := range []byte{0, 0x40, 0x60, 0xff} {
			checkNoRead(t, append([]byte{first}, make([]byte, 8191)...), size, api.ErrByte, 0)
		}
		for _, aid := range bares {
			checkNoRead(t, append([]byte{aid}, make([]byte, 8191)...), size, api.ErrArg, 1)
		}
	}
}

// P9.2: of more bytes than MaxWire it is ErrLong, at MaxWire, whatever they are.
func TestReadLong(t *testing.T) {
	for _, size := range edges {
		for _, n := range []int{8193, 8194, 16384, 16385, 65536, 65538, 200000} {
			for _, first := range [][]byte{{0x7d, 0x40, 0x40}, {0xf1, 0, 0}, {0x7d, 0xff}, {0x6d}, {0x6c}, {0}, {0x60}, {0xff}, {0x7d, 0x40, 0x40, 0x11}} {
				for _, fill := range []byte{0x40, 0x11, 0x00, 0xff} {
					b := append(slices.Clone(first), slices.Repeat([]byte{fill}, n-len(first))...)
					checkNoRead(t, b, size, api.ErrLong, 8192)
				}
			}
			for _, list := range filled(n, size) {
				_, b := submission(0x7d, 0, list, size)
				checkNoRead(t, b, size, api.ErrLong, 8192)
			}
		}
	}
}

// P9.2: what stands behind the end of the bytes in their memory is not read.
func TestReadEnds(t *testing.T) {
	for _, size := range edges {
		_, whole := submission(0x7d, size-1, rights(size), size)
		alone := slices.Concat(whole[:3], allLetters)
		for _, b := range [][]byte{whole, alone} {
			for n := range len(b) {
				checkBytes(t, b[:n], size)
				checkBytes(t, slices.Clip(slices.Clone(b[:n])), size)
			}
		}
		for _, aid := range bares {
			checkRead(t, []byte{aid, 0x40, 0x40}[:1], size, api.In{Aid: aid})
		}
	}
}

// P9.4: what is handed in to Read stays, with what stands behind it in its memory.
func TestReadHandedInStays(t *testing.T) {
	_, fields := submission(0x7d, 7, rights(80), 80)
	for _, whole := range [][]byte{fields, slices.Concat(fields[:3], allLetters)} {
		room := append(slices.Clone(whole), 0xaa, 0xbb, 0xcc)
		before := slices.Clone(room)
		for n := range len(room) {
			in, _ := input.Read(room[:n], 80)
			for _, f := range in.Fields {
				for i := range f.Text {
					f.Text[i] ^= 0xff
				}
				_ = append(f.Text, 0xff, 0xff, 0xff)
			}
			if !slices.Equal(room, before) {
				t.Fatalf("%d: of %x there is %x", n, before, room)
			}
		}
	}
}

// P9.4: what Read answers shares no memory with the bytes, with what it answered before, nor its texts with one another.
func TestReadAnswersNew(t *testing.T) {
	b := []byte{0x7d, 0x40, 0xc2, 0x11, 0x40, 0x40, 0xc1, 0xc2, 0x11, 0x40, 0xc4, 0xc3, 0x11, 0x40, 0xc7, 0xc4, 0xc5}
	want := api.In{Aid: 0x7d, Cursor: 2, Fields: []api.Entry{
		{Addr: 0, Text: []byte{0xc1, 0xc2}}, {Addr: 4, Text: []byte{0xc3}}, {Addr: 7, Text: []byte{0xc4, 0xc5}},
	}}
	first, _ := input.Read(b, 80)
	second, _ := input.Read(b, 80)
	first.Fields[0].Text[0] = 0xff
	first.Fields[0].Text = append(first.Fields[0].Text, 0xff, 0xff, 0xff, 0xff)
	first.Fields[1].Addr = 79
	_ = append(first.Fields, api.Entry{})
	if third, err := input.Read(b, 80); err != nil || !alike(third, want) {
		t.Fatalf("%v and %v", third, err)
	}
	for i := range b {
		b[i] = 0xee
	}
	if !alike(second, want) {
		t.Errorf("%v", second)
	}
	if string(first.Fields[1].Text) != "\xc3" || string(first.Fields[2].Text) != "\xc4\xc5" {
		t.Errorf("%v", first)
	}
}

// P9.4: the text of the one field without an address is new memory, too.
func TestReadAnswersNewAlone(t *testing.T) {
	b := []byte{0xf4, 0x40, 0x40, 0xc1, 0xc2}
	want := api.In{Aid: 0xf4, Fields: []api.Entry{{Addr: -1, Text: []byte{0xc1, 0xc2}}}}
	first, _ := input.Read(b, 80)
	second, _ := input.Read(b, 80)
	first.Fields[0].Text[0] = 0x40
	_ = append(first.Fields[0].Text, 0x41)
	if third, err := input.Read(b, 80); err != nil || !alike(third, want) || !alike(second, want) {
		t.Errorf("%v, %v and %v", second, third, err)
	}
	b[3], b[4] = 0xee, 0xee
	if !alike(second, want) {
		t.Errorf("%v", second)
	}
}

// P9.2: what Read answers hangs on its arguments alone, whatever was asked ahead.
func TestReadAgain(t *testing.T) {
	for range 2 {
		for _, size := range edges {
			in, b := submission(0xf6, size-1, rights(size), size)
			checkRead(t, b, size, in)
			checkNoRead(t, append(slices.Clone(b), 0x01), size, api.ErrByte, len(b))
			checkRead(t, []byte{0x6e}, size, api.In{Aid: 0x6e})
			checkNoRead(t, nil, size, api.ErrCut, 0)
			checkRead(t, b[:3], size, api.In{Aid: 0xf6, Cursor: size - 1})
		}
	}
}
