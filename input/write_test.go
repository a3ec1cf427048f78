package input_test

import (
	"math"
	"slices"
	"testing"

	"shutter/api"
	"shutter/input"
)

// P9.1, P9.2: submissions and their bytes, worked out by hand; the chapter's example first.
func TestExamples(t *testing.T) {
	for _, x := range []struct {
		in   api.In
		size int
		want []byte
	}{
		{api.In{Aid: api.AidEnter, Cursor: 1}, 1920, []byte{0x7d, 0x40, 0xc1}},
		{api.In{Aid: api.AidEnter}, 1, []byte{0x7d, 0x40, 0x40}},
		{api.In{Aid: 0xf9, Cursor: 4095}, 4096, []byte{0xf9, 0x7f, 0x7f}},
		{api.In{Aid: 0x7a, Cursor: 4096}, 4097, []byte{0x7a, 0x10, 0x00}},
		{api.In{Aid: 0x7c, Cursor: 16382}, 16383, []byte{0x7c, 0x3f, 0xfe}},
		{api.In{Aid: api.AidClear}, 1920, []byte{0x6d}},
		{api.In{Aid: api.AidPa1}, 1, []byte{0x6c}},
		{api.In{Aid: api.AidPa2}, 4097, []byte{0x6e}},
		{api.In{Aid: api.AidPa3}, 16383, []byte{0x6b}},
		{api.In{Aid: 0xf1, Cursor: 80, Fields: []api.Entry{
			{Addr: 2, Text: []byte{0xc1, 0x40}}, {Addr: 9}, {Addr: 1919, Text: []byte{0x1c, 0x1e, 0xfe}},
		}}, 1920, []byte{0xf1, 0xc1, 0x50, 0x11, 0x40, 0xc2, 0xc1, 0x40, 0x11, 0x40, 0xc9, 0x11, 0x5d, 0x7f, 0x1c, 0x1e, 0xfe}},
		{api.In{Aid: 0x7b, Cursor: 5000, Fields: []api.Entry{
			{Addr: 7999}, {Addr: 0, Text: []byte{0x40}}, {Addr: 0},
		}}, 8000, []byte{0x7b, 0x13, 0x88, 0x11, 0x1f, 0x3f, 0x11, 0, 0, 0x40, 0x11, 0, 0}},
		{api.In{Aid: 0xf3, Fields: []api.Entry{{Addr: -1, Text: []byte{0xc8, 0xc9}}}}, 80, []byte{0xf3, 0x40, 0x40, 0xc8, 0xc9}},
		{api.In{Aid: 0xf3, Cursor: 5, Fields: []api.Entry{{Addr: -1, Text: []byte{0x1e}}}}, 5000, []byte{0xf3, 0, 5, 0x1e}},
	} {
		checkWrite(t, x.in, x.size, x.want)
		checkRead(t, x.want, x.size, x.in)
	}
}

// besides is what may be told besides Aid: a Cursor, fields right and wrong, or all of them, and far too many.
func besides(size int) []api.In {
	list := []api.In{
		{Fields: []api.Entry{{Addr: -1}}},
		{Fields: []api.Entry{{Addr: -1, Text: []byte{0xc1}}}},
		{Fields: []api.Entry{{}}},
		{Cursor: -1, Fields: []api.Entry{{Addr: -1, Text: []byte{0}}, {Addr: size}}},
		{Fields: []api.Entry{{Addr: 0, Text: make([]byte, 9000)}}},
		{Fields: []api.Entry{{Addr: 0, Text: slices.Repeat([]byte{0xc1}, 9000)}}},
		{Fields: make([]api.Entry, 5000)},
		{Cursor: -1},
		{Cursor: 1},
		{Cursor: size - 1, Fields: []api.Entry{{Addr: size - 1, Text: []byte{0x40}}}},
	}
	for _, a := range noCells(size) {
		list = append(list, api.In{Cursor: a}, api.In{Cursor: a, Fields: []api.Entry{{Addr: a}}})
	}
	for _, x := range wrongs(size) {
		list = append(list, api.In{Fields: []api.Entry{x.f}}, api.In{Cursor: size - 1, Fields: []api.Entry{{}, x.f}})
	}
	return list
}

// P9.1: every Aid from 0 to 255, alone: its byte, its byte and the cursor's address, or ErrByte.
func TestWriteAids(t *testing.T) {
	for _, size := range sizes {
		for i := range 256 {
			in := api.In{Aid: byte(i)}
			switch {
			case isBare(in.Aid):
				checkWrite(t, in, size, []byte{byte(i)})
			case isTeller(in.Aid):
				checkWrite(t, in, size, slices.Concat([]byte{byte(i)}, place(0, size)))
			default:
				checkNoWrite(t, in, size, api.ErrByte, none)
			}
		}
	}
}

// P9.1: of another Aid ErrByte, of a bare one ErrArg, whatever stands besides, and neither with a place; of the others what the words say.
func TestWriteAidsBesides(t *testing.T) {
	for _, size := range edges {
		for _, in := range besides(size) {
			for i := range 256 {
				in.Aid = byte(i)
				switch {
				case isBare(in.Aid) && (in.Cursor != 0 || len(in.Fields) > 0):
					checkNoWrite(t, in, size, api.ErrArg, none)
				case isBare(in.Aid):
					checkWrite(t, in, size, []byte{byte(i)})
				case isTeller(in.Aid):
					checkAny(t, in, size)
				default:
					checkNoWrite(t, in, size, api.ErrByte, none)
				}
			}
		}
	}
}

// P9.1: a bare key with a Cursor, with fields, or with both is ErrArg, be they right else or not.
func TestWriteBareWithMore(t *testing.T) {
	for _, size := range sizes {
		for _, aid := range bares {
			for _, cursor := range append(noCells(size), -1, 1, 2, 255, 256) {
				checkNoWrite(t, api.In{Aid: aid, Cursor: cursor}, size, api.ErrArg, none)
				checkNoWrite(t, api.In{Aid: aid, Cursor: cursor, Fields: []api.Entry{{Text: []byte{0xc1}}}}, size, api.ErrArg, none)
			}
			for _, x := range rights(size) {
				checkNoWrite(t, api.In{Aid: aid, Fields: []api.Entry{x.f}}, size, api.ErrArg, none)
			}
			for _, x := range slices.Concat(wrongs(size), strays()) {
				checkNoWrite(t, api.In{Aid: aid, Fields: []api.Entry{x.f}}, size, api.ErrArg, none)
			}
		}
	}
}

// P9.1: nil and empty lists, of fields and of letters, are one.
func TestWriteEmptyLists(t *testing.T) {
	for _, empty := range [][]api.Entry{nil, {}, make([]api.Entry, 0, 3), []api.Entry{{Addr: 80}}[:0]} {
		for _, aid := range bares {
			checkWrite(t, api.In{Aid: aid, Fields: empty}, 80, []byte{aid})
		}
		for _, aid := range tellers {
			checkWrite(t, api.In{Aid: aid, Cursor: 79, Fields: empty}, 80, []byte{aid, 0xc1, 0x4f})
		}
	}
	for _, empty := range [][]byte{nil, {}, make([]byte, 0, 3), []byte{0x00, 0x11}[:0]} {
		for _, aid := range tellers {
			checkWrite(t, api.In{Aid: aid, Fields: []api.Entry{{Addr: 2, Text: empty}, {Text: empty}}}, 80, []byte{aid, 0x40, 0x40, 0x11, 0x40, 0xc2, 0x11, 0x40, 0x40})
			checkNoWrite(t, api.In{Aid: aid, Fields: []api.Entry{{Addr: -1, Text: empty}}}, 80, api.ErrArg, 0)
		}
	}
}

// P9.1: each cell may be the Cursor; other numbers are ErrAddr, without a place, ahead of what is wrong with fields.
func TestWriteCursors(t *testing.T) {
	for _, size := range sizes {
		for _, aid := range tellers {
			for _, cursor := range []int{0, size / 2, size - 1} {
				checkWrite(t, api.In{Aid: aid, Cursor: cursor}, size, slices.Concat([]byte{aid}, place(cursor, size)))
			}
			for _, cursor := range append(noCells(size), -1) {
				checkNoWrite(t, api.In{Aid: aid, Cursor: cursor}, size, api.ErrAddr, none)
				checkNoWrite(t, api.In{Aid: aid, Cursor: cursor, Fields: []api.Entry{{Text: []byte{0xc1}}}}, size, api.ErrAddr, none)
				checkNoWrite(t, api.In{Aid: aid, Cursor: cursor, Fields: []api.Entry{{Text: []byte{0}}}}, size, api.ErrAddr, none)
				checkNoWrite(t, api.In{Aid: aid, Cursor: cursor, Fields: []api.Entry{{Addr: -1}}}, size, api.ErrAddr, none)
			}
		}
	}
	for _, size := range []int{80, 4096, 4097} {
		for a := range size {
			checkWrite(t, api.In{Aid: 0x7d, Cursor: a}, size, slices.Concat([]byte{0x7d}, place(a, size)))
		}
	}
}

// P9.1: each cell may be a field's address, with letters and without; other numbers are ErrAddr, at the field's place.
func TestWriteAddresses(t *testing.T) {
	for _, size := range sizes {
		for _, text := range [][]byte{nil, {0xc1, 0x40}} {
			for _, a := range []int{0, size / 2, size - 1} {
				in, b := submission(0x7d, size-1, []sample{with(a, text, size)}, size)
				checkWrite(t, in, size, b)
			}
			for _, a := range noCells(size) {
				f := api.Entry{Addr: a, Text: text}
				checkNoWrite(t, api.In{Aid: 0x7d, Fields: []api.Entry{f}}, size, api.ErrAddr, 0)
				checkNoWrite(t, api.In{Aid: 0xf1, Fields: []api.Entry{{}, {}, f}}, size, api.ErrAddr, 2)
			}
		}
	}
	for _, size := range []int{80, 4096, 4097} {
		for a := range size {
			in, b := submission(0x7c, 0, []sample{with(a, []byte{0xc1}, size)}, size)
			checkWrite(t, in, size, b)
		}
	}
}

// P9.1, P9.2, P9.3: each right field alone, two, three and all of them, of every key that tells fields.
func TestWriteFields(t *testing.T) {
	for _, size := range sizes {
		list := rights(size)
		runs := [][]sample{list}
		for i, x := range list {
			y, z := list[(i*7+3)%len(list)], list[(i*5+9)%len(list)]
			runs = append(runs, []sample{x}, []sample{x, x}, []sample{x, y}, []sample{y, x, z})
		}
		for i, run := range runs {
			for _, aid := range tellers {
				in, b := submission(aid, i%size, run, size)
				checkWrite(t, in, size, b)
				checkRead(t, b, size, in)
			}
		}
	}
}

// P9.1: every byte, at the first, a middle and the last place of a field's text, with an address and without: letters are written, others are ErrByte.
func TestWriteBytes(t *testing.T) {
	for _, size := range edges {
		for i := range 256 {
			for _, n := range []int{1, 2, 3, 9} {
				for at := range n {
					text := slices.Repeat([]byte{0xc1}, n)
					text[at] = byte(i)
					alone := api.In{Aid: 0x7d, Fields: []api.Entry{{Addr: -1, Text: text}}}
					in, b := submission(0xf2, 0, []sample{with(0, nil, size), with(size-1, text, size), with(0, text, size)}, size)
					if isLetter(byte(i)) {
						checkWrite(t, alone, size, slices.Concat([]byte{0x7d}, place(0, size), text))
						checkWrite(t, in, size, b)
						continue
					}
					checkNoWrite(t, alone, size, api.ErrByte, 0)
					checkNoWrite(t, in, size, api.ErrByte, 1)
				}
			}
		}
	}
}

// P9.1: the one field without an address: alone with letters it is right, alone without ErrArg, beside others ErrAddr at its place.
func TestWriteNoAddress(t *testing.T) {
	for _, size := range sizes {
		for _, aid := range tellers {
			for _, text := range [][]byte{{0xc1}, {0x40, 0xfe}, {0x1c}, {0x1e, 0x7d}, allLetters} {
				f := api.Entry{Addr: -1, Text: text}
				want := slices.Concat([]byte{aid}, place(size-1, size), text)
				checkWrite(t, api.In{Aid: aid, Cursor: size - 1, Fields: []api.Entry{f}}, size, want)
				checkNoWrite(t, api.In{Aid: aid, Fields: []api.Entry{f, f}}, size, api.ErrAddr, 0)
			}
			checkNoWrite(t, api.In{Aid: aid, Fields: []api.Entry{{Addr: -1}}}, size, api.ErrArg, 0)
			checkNoWrite(t, api.In{Aid: aid, Fields: []api.Entry{{Addr: -1, Text: []byte{0}}}}, size, api.ErrByte, 0)
			checkNoWrite(t, api.In{Aid: aid, Fields: []api.Entry{{Addr: -2, Text: []byte{0xc1}}}}, size, api.ErrAddr, 0)
			for _, x := range strays() {
				checkNoWrite(t, api.In{Aid: aid, Fields: []api.Entry{x.f, {}}}, size, api.ErrAddr, 0)
				checkNoWrite(t, api.In{Aid: aid, Fields: []api.Entry{{}, x.f}}, size, api.ErrAddr, 1)
				checkNoWrite(t, api.In{Aid: aid, Fields: []api.Entry{{}, x.f, {}}}, size, api.ErrAddr, 1)
			}
		}
	}
}

// P9.1: a field that isn't right, at the first, a middle and the last place: its error, and the field's place.
func TestWriteWrongField(t *testing.T) {
	for _, size := range sizes {
		in, _ := submission(0x7d, 0, rights(size), size)
		for _, x := range wrongs(size) {
			checkNoWrite(t, api.In{Aid: 0xf9, Fields: []api.Entry{x.f}}, size, x.code, 0)
		}
		for _, x := range slices.Concat(wrongs(size), strays()) {
			for at := range len(in.Fields) + 1 {
				fields := slices.Insert(slices.Clone(in.Fields), at, x.f)
				checkNoWrite(t, api.In{Aid: 0x7d, Cursor: size - 1, Fields: fields}, size, x.code, at)
			}
		}
	}
}

// P9.1: of several fields that aren't right, the first one's error and place.
func TestWriteFirstWrongField(t *testing.T) {
	for _, size := range edges {
		list := slices.Concat(wrongs(size), strays())
		for _, x := range list {
			for _, y := range list {
				checkNoWrite(t, api.In{Aid: 0x7d, Fields: []api.Entry{x.f, y.f}}, size, x.code, 0)
				checkNoWrite(t, api.In{Aid: 0xf7, Fields: []api.Entry{{}, {Addr: size - 1}, x.f, {}, y.f, x.f}}, size, x.code, 2)
			}
		}
	}
}

// P9.1: submissions of all kinds of fields, up to three of them, right and wrong, against the document's words.
func TestWriteMixed(t *testing.T) {
	for _, size := range edges {
		kinds := []api.Entry{{}, {Addr: size - 1, Text: []byte{0xc1}}, {Addr: size, Text: []byte{0}}, {Text: []byte{0xc1, 0}}, {Addr: -1}, {Addr: -1, Text: []byte{0x40}}, {Addr: -1, Text: []byte{0x11}}, {Addr: -2}}
		for _, aid := range []byte{0x7d, 0xf1, 0x6d, 0x60} {
			for _, cursor := range []int{0, size - 1, size, -1} {
				for _, x := range kinds {
					checkAny(t, api.In{Aid: aid, Cursor: cursor, Fields: []api.Entry{x}}, size)
					for _, y := range kinds {
						checkAny(t, api.In{Aid: aid, Cursor: cursor, Fields: []api.Entry{x, y}}, size)
						for _, z := range kinds {
							checkAny(t, api.In{Aid: aid, Cursor: cursor, Fields: []api.Entry{x, y, z}}, size)
						}
					}
				}
			}
		}
	}
}

// filled is the fields of a submission of just n bytes, 9 at least, in several shapes.
func filled(n, size int) map[string][]sample {
	text := func(n int) []byte { return slices.Repeat([]byte{0xe2}, n) }
	left := n - 3 // what the key and the cursor's address leave
	empty := with(size-1, nil, size)
	return map[string][]sample{
		"alone":  {{api.Entry{Addr: -1, Text: text(left)}, text(left)}},
		"one":    {with(0, text(left-3), size)},
		"first":  {with(size-1, text(left-6), size), empty},
		"last":   {empty, with(0, text(left-6), size)},
		"many":   append(slices.Repeat([]sample{empty}, left/3-1), with(0, text(left%3), size)),
		"middle": append(append(slices.Repeat([]sample{empty}, left/6-1), with(0, text(left%6), size)), slices.Repeat([]sample{empty}, left/6)...),
	}
}

// P9.1, P9.2, P9.3: of just MaxWire bytes a submission is right and written; of more it is right for Right, and ErrLong, without a place, of Write.
func TestWriteLong(t *testing.T) {
	for _, size := range edges {
		for _, aid := range []byte{0x7d, 0xf9, 0x7a} {
			for _, n := range []int{9, 10, 11, 100, 4096, 8190, 8191, 8192} {
				for name, list := range filled(n, size) {
					in, b := submission(aid, size-1, list, size)
					if len(b) != n {
						t.Fatalf("%s: %d bytes, not %d", name, len(b), n)
					}
					checkWrite(t, in, size, b)
				}
			}
			for _, n := range []int{8193, 8194, 8195, 8196, 16384, 65536 + 9, 100000} {
				for _, list := range filled(n, size) {
					in, _ := submission(aid, size-1, list, size)
					checkLong(t, in, size)
				}
			}
		}
	}
}

// P9.1: of a submission that isn't right Right's error is told ahead of ErrLong, wherever the wrong field stands.
func TestWriteLongAndWrong(t *testing.T) {
	for _, size := range edges {
		for _, n := range []int{8192, 8193, 30000} {
			for name, list := range filled(n, size) {
				in, _ := submission(0x7d, 0, list, size)
				if name == "alone" {
					in.Fields[0].Text[n-4] = 0
					checkNoWrite(t, in, size, api.ErrByte, 0)
					continue
				}
				for _, x := range slices.Concat(wrongs(size), strays()) {
					checkNoWrite(t, api.In{Aid: 0x7d, Fields: append(slices.Clone(in.Fields), x.f)}, size, x.code, len(list))
					checkNoWrite(t, api.In{Aid: 0x7d, Fields: append([]api.Entry{x.f}, in.Fields...)}, size, x.code, 0)
				}
				checkNoWrite(t, api.In{Aid: 0x7d, Cursor: size, Fields: in.Fields}, size, api.ErrAddr, none)
				checkNoWrite(t, api.In{Aid: 0x6d, Fields: in.Fields}, size, api.ErrArg, none)
				checkNoWrite(t, api.In{Aid: 0x60, Fields: in.Fields}, size, api.ErrByte, none)
			}
		}
		long := api.Entry{Text: slices.Repeat([]byte{0xc1}, 9000)}
		wrongLetter := api.Entry{Text: append(slices.Repeat([]byte{0xc1}, 9000), 0)}
		checkNoWrite(t, api.In{Aid: 0x7d, Fields: []api.Entry{long, wrongLetter, {Addr: size}}}, size, api.ErrByte, 1)
		checkNoWrite(t, api.In{Aid: 0x7d, Fields: []api.Entry{long, long, long, {Addr: -1}}}, size, api.ErrAddr, 3)
	}
}

// P9.4: what is handed in to Right and Write stays, with what stands behind it in its memory.
func TestWriteHandedInStays(t *testing.T) {
	text := []byte{0xc1, 0x1c, 0x40, 0x00, 0xbb}
	list := []api.Entry{{Addr: 3, Text: text[:3]}, {Addr: 79}, {Addr: 1, Text: text[1:2]}, {Addr: 80, Text: text}, {Addr: -1}}
	for _, aid := range slices.Concat(bares, tellers, []byte{0, 0x60}) {
		for n := range len(list) + 1 {
			fields := slices.Clone(list)
			in := api.In{Aid: aid, Cursor: 6, Fields: fields[:n]}
			_ = input.Right(in, 80)
			b, _ := input.Write(in, 80)
			for i := range b {
				b[i] ^= 0xff
			}
			_ = append(b, 0xff, 0xff, 0xff)
			if !alike(api.In{Fields: fields}, api.In{Fields: list}) || !slices.Equal(text, []byte{0xc1, 0x1c, 0x40, 0x00, 0xbb}) {
				t.Fatalf("%d fields of %x: %v and %x", n, aid, fields, text)
			}
		}
	}
}

// P9.4: what Write answers shares no memory with the submission, nor with what it answered before.
func TestWriteAnswersNew(t *testing.T) {
	text := []byte{0xc1, 0xc2, 0xc3}
	for _, a := range []int{-1, 2} {
		in := api.In{Aid: api.AidEnter, Cursor: 1, Fields: []api.Entry{{Addr: a, Text: text}}}
		want := written(in, 80)
		first, _ := input.Write(in, 80)
		second, _ := input.Write(in, 80)
		first[len(first)-2], text[0] = 0xff, 0x40
		_ = append(first, 0xff, 0xff)
		if !slices.Equal(second, want) || !slices.Equal(first[:len(first)-3], want[:len(want)-3]) {
			t.Errorf("%x and %x, not %x", first, second, want)
		}
		in.Cursor = 79
		checkWrite(t, in, 80, written(in, 80))
		if !slices.Equal(text, []byte{0x40, 0xc2, 0xc3}) {
			t.Errorf("%x", text)
		}
		text[0] = 0xc1
	}
	for _, aid := range bares {
		first, _ := input.Write(api.In{Aid: aid}, 80)
		first[0] = 0
		_ = append(first, 0xff)
		checkWrite(t, api.In{Aid: aid}, 80, []byte{aid})
	}
}

// P9.1: what Right and Write answer hangs on their arguments alone, whatever was asked ahead.
func TestWriteAgain(t *testing.T) {
	for range 2 {
		for _, size := range edges {
			in, b := submission(0xf5, size-1, rights(size), size)
			checkWrite(t, in, size, b)
			checkNoWrite(t, api.In{Aid: 0x7d, Fields: []api.Entry{{}, {Addr: size}}}, size, api.ErrAddr, 1)
			checkNoWrite(t, api.In{Aid: 0x6d, Cursor: 1}, size, api.ErrArg, none)
			checkWrite(t, api.In{Aid: 0x6d}, size, []byte{0x6d})
			checkNoWrite(t, api.In{}, size, api.ErrByte, none)
		}
	}
}

// P1: no call panics at numbers that no size is, of which no more is promised.
func TestNoSize(t *testing.T) {
	for _, size := range []int{0, -1, -1920, 16384, 65536 + 80, math.MinInt, math.MaxInt} {
		for _, aid := range slices.Concat(bares, tellers, []byte{0, 0xff}) {
			for _, list := range [][]sample{nil, rights(1), rights(16383), {{api.Entry{Addr: -1, Text: []byte{0xc1}}, []byte{0xc1}}}} {
				in, b := submission(aid, 0, list, 16383)
				wrong := input.Right(in, size)
				if got, err := input.Write(in, size); err != nil && len(got) > 0 || wrong != nil && err == nil {
					t.Errorf("%x, size %d: %x beside %v", aid, size, got, err)
				}
				for _, x := range [][]byte{nil, b[:1], b[:2], b} {
					if got, err := input.Read(x, size); err != nil && !alike(got, api.In{}) {
						t.Errorf("%x, size %d: %v beside %v", x, size, got, err)
					}
				}
			}
		}
	}
}
