package stream_test

import (
	"math"
	"slices"
	"testing"

	"shutter/api"
	"shutter/stream"
)

// P8.1: Writes is true of CmdWrite and CmdErase alone, of all numbers about 0 to 255 and far outside.
func TestWrites(t *testing.T) {
	for cmd := -300; cmd <= 600; cmd++ {
		if want := cmd == api.CmdWrite || cmd == api.CmdErase; stream.Writes(cmd) != want {
			t.Errorf("Writes(%d) is %t", cmd, !want)
		}
	}
	for _, cmd := range farCmds {
		if stream.Writes(cmd) {
			t.Errorf("Writes(%d) is true", cmd)
		}
	}
}

// P8.1, P8.2: commands and their bytes, worked out by hand; the chapter's example first.
func TestExamples(t *testing.T) {
	for _, x := range []struct {
		o    api.Out
		size int
		want []byte
	}{
		{api.Out{Cmd: api.CmdErase, Wcc: api.Wcc{Unlock: true}}, 1920, []byte{0xf5, 0xc2}},
		{api.Out{Cmd: api.CmdWrite}, 1, []byte{0xf1, 0x40}},
		{api.Out{Cmd: api.CmdWrite, Wcc: api.Wcc{Reset: true}}, 4096, []byte{0xf1, 0xc1}},
		{api.Out{Cmd: api.CmdWrite, Wcc: api.Wcc{Alarm: true}}, 4097, []byte{0xf1, 0xc4}},
		{api.Out{Cmd: api.CmdErase, Wcc: api.Wcc{Alarm: true, Unlock: true, Reset: true}}, 16383, []byte{0xf5, 0xc7}},
		{api.Out{Cmd: api.CmdClean}, 1920, []byte{0x6f}},
		{api.Out{Cmd: api.CmdRead}, 16383, []byte{0xf2}},
		{api.Out{Cmd: api.CmdMod}, 1, []byte{0xf6}},
		{api.Out{Cmd: api.CmdWrite, Wcc: api.Wcc{Alarm: true, Reset: true}, Orders: []api.Order{
			{Kind: api.Set, Addr: 80}, {Kind: api.Start, Attr: api.Attr{Protected: true}}, {Kind: api.Text, Text: []byte{0xc1, 0, 0x1e}}, {Kind: api.Cursor},
		}}, 1920, []byte{0xf1, 0xc5, 0x11, 0xc1, 0x50, 0x1d, 0x60, 0xc1, 0, 0x1e, 0x13}},
		{api.Out{Cmd: api.CmdErase, Orders: []api.Order{
			{Kind: api.Text, Text: []byte{0x40}}, {Kind: api.Tab}, {Kind: api.Text, Text: []byte{0x40}}, {Kind: api.Repeat, Addr: 5000, Char: 0x5c}, {Kind: api.Erase},
		}}, 8000, []byte{0xf5, 0x40, 0x40, 0x05, 0x40, 0x3c, 0x13, 0x88, 0x5c, 0x12, 0, 0}},
	} {
		checkWrite(t, x.o, x.size, x.want)
		checkRead(t, x.want, x.size, x.o)
	}
}

// P8.1: every Cmd from 0 to 255, and far outside, alone: the byte and perhaps the write's, or ErrOrder.
func TestWriteCmds(t *testing.T) {
	cmds := slices.Clone(farCmds)
	for cmd := -300; cmd <= 600; cmd++ {
		cmds = append(cmds, cmd)
	}
	for _, size := range edges {
		for _, cmd := range cmds {
			o := api.Out{Cmd: cmd}
			switch {
			case isWriter(cmd):
				checkWrite(t, o, size, []byte{byte(cmd), 0x40})
			case isCmd(cmd):
				checkWrite(t, o, size, []byte{byte(cmd)})
			default:
				checkNoWrite(t, o, size, api.ErrOrder, none)
			}
		}
	}
}

// besides is what may be told besides Cmd: a Wcc, orders right and wrong, or both, and far too many.
func besides(size int) []api.Out {
	var list []api.Out
	for wcc := range 8 {
		list = append(list, api.Out{Wcc: wccOf(wcc), Orders: []api.Order{{Kind: api.Cursor}}})
		if wcc > 0 {
			list = append(list, api.Out{Wcc: wccOf(wcc)}, api.Out{Wcc: wccOf(wcc), Orders: []api.Order{}})
		}
	}
	for _, x := range rights(size) {
		list = append(list, api.Out{Orders: []api.Order{x.o}})
	}
	for _, x := range wrongs(size) {
		list = append(list, api.Out{Orders: []api.Order{x.o}}, api.Out{Wcc: wccOf(5), Orders: []api.Order{{Kind: api.Tab}, x.o}})
	}
	text := api.Order{Kind: api.Text, Text: make([]byte, 9000)}
	return append(list, api.Out{Orders: []api.Order{text}}, api.Out{Orders: []api.Order{text, text}})
}

// P8.1: of another Cmd ErrOrder, of a command that doesn't write ErrArg, whatever stands besides, and neither with a place.
func TestWriteBesides(t *testing.T) {
	for _, size := range edges {
		for _, o := range besides(size) {
			for cmd := range 256 {
				o.Cmd = cmd
				switch {
				case isWriter(cmd):
				case isCmd(cmd):
					checkNoWrite(t, o, size, api.ErrArg, none)
				default:
					checkNoWrite(t, o, size, api.ErrOrder, none)
				}
			}
			for _, cmd := range farCmds {
				o.Cmd = cmd
				checkNoWrite(t, o, size, api.ErrOrder, none)
			}
		}
	}
}

// P8.1: nil and empty lists of orders are one, of every command.
func TestWriteNoOrders(t *testing.T) {
	for _, empty := range [][]api.Order{nil, {}, make([]api.Order, 0, 3), []api.Order{{Kind: 8}}[:0]} {
		for _, cmd := range writers {
			for wcc := range 8 {
				checkWrite(t, api.Out{Cmd: cmd, Wcc: wccOf(wcc), Orders: empty}, 80, []byte{byte(cmd), graphics[wcc]})
			}
		}
		for _, cmd := range others {
			checkWrite(t, api.Out{Cmd: cmd, Orders: empty}, 80, []byte{byte(cmd)})
		}
	}
}

// P8.1, P8.2, P8.3: both commands that write, with every write's byte, with each right order alone, two, three and all of them.
func TestWriteOrders(t *testing.T) {
	for _, size := range sizes {
		list := rights(size)
		runs := [][]sample{apart(list)}
		for i, x := range list {
			y, z := list[(i*7+3)%len(list)], list[(i*5+9)%len(list)]
			runs = append(runs, []sample{x}, apart([]sample{x, y}), apart([]sample{y, x, z}), apart([]sample{z, y, x}))
		}
		for _, run := range runs {
			for _, cmd := range writers {
				for wcc := range 8 {
					o, b := command(cmd, wcc, run)
					checkWrite(t, o, size, b)
					checkRead(t, b, size, o)
				}
			}
		}
	}
}

// P8.1: an order that isn't right, at the first, a middle and the last place: its error, and the order's place.
func TestWriteWrongOrder(t *testing.T) {
	for _, size := range sizes {
		list := apart(rights(size))
		for _, cmd := range writers {
			for _, x := range wrongs(size) {
				checkNoWrite(t, api.Out{Cmd: cmd, Orders: []api.Order{x.o}}, size, x.code, 0)
				for at := range len(list) + 1 {
					o, _ := command(cmd, at%8, list)
					if at > 0 && x.o.Kind == api.Text && list[at-1].o.Kind == api.Text {
						continue // two faults at one place, of which another test speaks
					}
					o.Orders = slices.Insert(o.Orders, at, x.o)
					checkNoWrite(t, o, size, x.code, at)
				}
			}
		}
	}
}

// P8.1: of several orders that aren't right, the first one's error and place.
func TestWriteFirstWrongOrder(t *testing.T) {
	for _, size := range edges {
		for _, x := range wrongs(size) {
			for _, y := range wrongs(size) {
				if x.o.Kind == api.Text && y.o.Kind == api.Text {
					continue
				}
				checkNoWrite(t, api.Out{Cmd: 0xf1, Orders: []api.Order{x.o, y.o}}, size, x.code, 0)
				checkNoWrite(t, api.Out{Cmd: 0xf5, Orders: []api.Order{{Kind: api.Tab}, {Kind: api.Cursor}, x.o, {Kind: api.Tab}, y.o}}, size, x.code, 2)
			}
		}
	}
}

// P8.1: characters behind characters: ErrArg, at the later one's place, the first of them.
func TestWriteTextBehindText(t *testing.T) {
	a, b := api.Order{Kind: api.Text, Text: []byte{0xc1}}, api.Order{Kind: api.Text, Text: []byte{0, 0xc2}}
	empty, bad := api.Order{Kind: api.Text}, api.Order{Kind: api.Text, Text: []byte{0x11}}
	tab, none8 := api.Order{Kind: api.Tab}, api.Order{Kind: 8}
	for _, size := range edges {
		far := api.Order{Kind: api.Set, Addr: size}
		for _, x := range []struct {
			list []api.Order
			code api.Errno
			at   int
		}{
			{[]api.Order{a, a}, api.ErrArg, 1},
			{[]api.Order{a, b}, api.ErrArg, 1},
			{[]api.Order{a, b, a}, api.ErrArg, 1},
			{[]api.Order{tab, a, b}, api.ErrArg, 2},
			{[]api.Order{a, tab, a, b, tab}, api.ErrArg, 3},
			{[]api.Order{a, tab, a, tab, tab, b, a, a}, api.ErrArg, 6},
			{[]api.Order{a, empty}, api.ErrArg, 1},
			{[]api.Order{a, bad}, api.ErrArg, 1},
			{[]api.Order{empty, a}, api.ErrArg, 0},
			{[]api.Order{bad, a}, api.ErrArg, 0},
			{[]api.Order{tab, a, b, far}, api.ErrArg, 2},
			{[]api.Order{tab, a, far, a, b}, api.ErrAddr, 2},
			{[]api.Order{none8, a, a}, api.ErrOrder, 0},
			{[]api.Order{a, none8, a, a}, api.ErrOrder, 1},
			{[]api.Order{a, a, none8}, api.ErrArg, 1},
		} {
			for _, cmd := range writers {
				checkNoWrite(t, api.Out{Cmd: cmd, Wcc: wccOf(3), Orders: x.list}, size, x.code, x.at)
			}
		}
		checkWrite(t, api.Out{Cmd: 0xf1, Orders: []api.Order{a, tab, a, tab, b}}, size, []byte{0xf1, 0x40, 0xc1, 0x05, 0xc1, 0x05, 0, 0xc2})
	}
}

// filled is orders of just n bytes, at least 2, of several shapes: one of characters, Tabs, and mixed ones.
func filled(n, size int) map[string][]sample {
	text := func(n int) sample {
		b := slices.Repeat([]byte{0xe2}, n)
		return sample{api.Order{Kind: api.Text, Text: b}, b}
	}
	tab := sample{api.Order{Kind: api.Tab}, []byte{0x05}}
	repeat := sample{api.Order{Kind: api.Repeat, Addr: size - 1, Char: 0x5c}, slices.Concat([]byte{0x3c}, place(size-1, size), []byte{0x5c})}
	start := sample{api.Order{Kind: api.Start}, []byte{0x1d, 0x40}}
	lists := map[string][]sample{
		"text":    {text(n)},
		"tabs":    slices.Repeat([]sample{tab}, n),
		"text, 1": {text(n - 1), tab},
		"1, text": {tab, text(n - 1)},
		"repeats": append(slices.Repeat([]sample{repeat}, n/4), slices.Repeat([]sample{tab}, n%4)...),
		"starts":  append(slices.Repeat([]sample{tab}, n%2), slices.Repeat([]sample{start}, n/2)...),
	}
	if n > 10 {
		lists["last"] = []sample{text(n - 4), repeat}
		lists["mixed"] = []sample{text(5), tab, text(n - 8), start}
	}
	return lists
}

// P8.1, P8.2: of just MaxWire bytes a command is right; of more it is ErrLong, without a place.
func TestWriteLong(t *testing.T) {
	for _, size := range edges {
		for _, cmd := range writers {
			for _, n := range []int{2, 3, 100, 4094, 8188, 8189, 8190} {
				for _, list := range filled(n, size) {
					o, b := command(cmd, n%8, list)
					checkWrite(t, o, size, b)
				}
			}
			for _, n := range []int{8191, 8192, 8193, 16382, 16384, 65538, 100000} {
				for _, list := range filled(n, size) {
					o, _ := command(cmd, n%8, list)
					checkNoWrite(t, o, size, api.ErrLong, none)
				}
			}
		}
	}
}

// P8.1: an order that isn't right is told ahead of ErrLong, wherever it stands.
func TestWriteLongAndWrong(t *testing.T) {
	for _, size := range edges {
		for _, x := range wrongs(size) {
			for _, n := range []int{8190, 8191, 30000} {
				o, _ := command(0xf1, 2, filled(n, size)["1, text"])
				tab := api.Order{Kind: api.Tab}
				checkNoWrite(t, api.Out{Cmd: 0xf1, Orders: append(slices.Clone(o.Orders), tab, x.o)}, size, x.code, 3)
				checkNoWrite(t, api.Out{Cmd: 0xf1, Orders: append([]api.Order{x.o, tab}, o.Orders...)}, size, x.code, 0)
			}
		}
		text := api.Order{Kind: api.Text, Text: make([]byte, 9000)}
		checkNoWrite(t, api.Out{Cmd: 0xf5, Orders: []api.Order{text, text}}, size, api.ErrArg, 1)
		checkNoWrite(t, api.Out{Cmd: 0xf5, Orders: []api.Order{text, {Kind: api.Tab}, text, text}}, size, api.ErrArg, 3)
	}
}

// P8.4: what is handed in to Write stays, with what stands behind it in its memory.
func TestWriteHandedInStays(t *testing.T) {
	text := []byte{0xc1, 0, 0x40, 0xaa, 0xbb}
	list := []api.Order{{Kind: api.Tab}, {Kind: api.Text, Text: text[:3]}, {Kind: api.Set, Addr: 79}, {Kind: 8, Text: text}, {Kind: api.Text}}
	for _, cmd := range slices.Concat(writers, others, []int{0, math.MinInt}) {
		for n := range len(list) + 1 {
			orders := slices.Clone(list)
			o := api.Out{Cmd: cmd, Wcc: wccOf(6), Orders: orders[:n]}
			b, _ := stream.Write(o, 80)
			for i := range b {
				b[i] ^= 0xff
			}
			_ = append(b, 0xff, 0xff, 0xff)
			if !alike(api.Out{Orders: orders}, api.Out{Orders: list}) || !slices.Equal(text, []byte{0xc1, 0, 0x40, 0xaa, 0xbb}) {
				t.Fatalf("%d orders of %x: %v and %x", n, cmd, orders, text)
			}
		}
	}
}

// P8.4: what Write answers shares no memory with the command, nor with what it answered before.
func TestWriteAnswersNew(t *testing.T) {
	text := []byte{0xc1, 0xc2, 0xc3}
	o := api.Out{Cmd: api.CmdWrite, Orders: []api.Order{{Kind: api.Text, Text: text}, {Kind: api.Cursor}}}
	first, _ := stream.Write(o, 80)
	second, _ := stream.Write(o, 80)
	text[0], first[3] = 0x40, 0xff
	o.Orders[1].Kind = api.Tab
	third, _ := stream.Write(o, 80)
	if !slices.Equal(first, []byte{0xf1, 0x40, 0xc1, 0xff, 0xc3, 0x13}) || !slices.Equal(second, []byte{0xf1, 0x40, 0xc1, 0xc2, 0xc3, 0x13}) {
		t.Errorf("%x and %x", first, second)
	}
	if !slices.Equal(third, []byte{0xf1, 0x40, 0x40, 0xc2, 0xc3, 0x05}) {
		t.Errorf("%x", third)
	}
	for _, cmd := range others {
		first, _ := stream.Write(api.Out{Cmd: cmd}, 80)
		first[0] = 0
		_ = append(first, 0xff)
		checkWrite(t, api.Out{Cmd: cmd}, 80, []byte{byte(cmd)})
	}
}

// P8.1: what Write answers hangs on its arguments alone, whatever was asked ahead.
func TestWriteAgain(t *testing.T) {
	for range 2 {
		for _, size := range edges {
			o, b := command(0xf5, 4, apart(rights(size)))
			checkWrite(t, o, size, b)
			checkNoWrite(t, api.Out{Cmd: 0xf1, Orders: []api.Order{{Kind: api.Set, Addr: size}}}, size, api.ErrAddr, 0)
			checkNoWrite(t, api.Out{Cmd: 0xf6, Wcc: wccOf(1)}, size, api.ErrArg, none)
			checkWrite(t, api.Out{Cmd: 0xf6}, size, []byte{0xf6})
		}
	}
}

// P1: no call panics at numbers that no size is, of which no more is promised.
func TestNoSize(t *testing.T) {
	for _, size := range []int{0, -1, -1920, 16384, 65536 + 80, math.MinInt, math.MaxInt} {
		for _, cmd := range slices.Concat(writers, others, []int{0, math.MaxInt}) {
			for _, list := range [][]sample{nil, rights(1), apart(rights(1)), rights(16383)} {
				o, b := command(writers[0], 7, list)
				o.Cmd = cmd
				if got, err := stream.Write(o, size); err != nil && len(got) > 0 {
					t.Errorf("%x, size %d: %x beside %v", cmd, size, got, err)
				}
				b[0] = byte(cmd)
				if got, err := stream.Read(b, size); err != nil && !alike(got, api.Out{}) {
					t.Errorf("%x, size %d: %v beside %v", b, size, got, err)
				}
			}
		}
	}
}
