package stream_test

import (
	"encoding/hex"
	"errors"
	"math"
	"math/bits"
	"slices"
	"testing"

	"shutter/api"
	"shutter/bytes"
	"shutter/order"
	"shutter/stream"
)

// graphics is the graphic bytes, by their numbers: read by the library, not by the layers below.
var graphics = func() []byte {
	b, err := hex.DecodeString(api.Graphic)
	if err != nil || len(b) != 64 {
		panic("no graphic bytes")
	}
	return b
}()

// edges is the sizes at which an address's writing begins and ends.
var edges = []int{1, 4096, 4097, 16383}

// sizes is the edges, and some between.
var sizes = append(slices.Clone(edges), 2, 20, 80, 1920, 4095, 4098, 8000, 16382)

// writers and others are the commands that write, and those that don't.
var (
	writers = []int{0xf1, 0xf5}
	others  = []int{0x6f, 0xf2, 0xf6}
)

// half is a number none of whose lower bits are set.
const half = 1 << (bits.UintSize / 2)

// none is a place that there isn't: of an error that is told alone.
const none = -1

// farCmds is numbers far outside, among them those whose lower bits are a command's.
var farCmds = func() []int {
	list := []int{-1, -2, -255, -256, -257, 256, 257, 1000, math.MaxInt32, math.MinInt32, math.MinInt, math.MinInt + 1, math.MaxInt - 1, math.MaxInt}
	for _, cmd := range slices.Concat(writers, others) {
		list = append(list, -cmd, ^cmd, cmd-256, cmd+256, cmd-65536, cmd+65536, cmd-half, cmd+half, math.MinInt+cmd)
	}
	return list
}()

// isWriter tells the commands that write by the document's words.
func isWriter(cmd int) bool { return slices.Contains(writers, cmd) }

// isCmd tells the commands by the document's words.
func isCmd(cmd int) bool { return isWriter(cmd) || slices.Contains(others, cmd) }

// wccOf is the write whose byte has that number.
func wccOf(n int) api.Wcc { return api.Wcc{Alarm: n&4 != 0, Unlock: n&2 != 0, Reset: n&1 != 0} }

// place is an address's bytes by the document's words.
func place(a, size int) []byte {
	if size <= 4096 {
		return []byte{graphics[a/64], graphics[a%64]}
	}
	return []byte{byte(a / 256), byte(a % 256)}
}

// sample is a right order, and its bytes.
type sample struct {
	o api.Order
	b []byte
}

// rights is right orders of each kind, for a size, and their bytes, written out.
func rights(size int) []sample {
	all := api.Attr{Protected: true, Numeric: true, Show: 3, Modified: true}
	list := []sample{
		{api.Order{Kind: 1, Text: []byte{0}}, []byte{0}},
		{api.Order{Kind: 1, Text: []byte{0xc1, 0xc2}}, []byte{0xc1, 0xc2}},
		{api.Order{Kind: 1, Text: []byte{0x40, 0x1c, 0x1e, 0xfe, 0}}, []byte{0x40, 0x1c, 0x1e, 0xfe, 0}},
		{api.Order{Kind: 1, Text: []byte{0xf1, 0x40, 0xc1}}, []byte{0xf1, 0x40, 0xc1}},
		{api.Order{Kind: 2}, []byte{0x1d, 0x40}},
		{api.Order{Kind: 2, Attr: api.Attr{Protected: true}}, []byte{0x1d, 0x60}},
		{api.Order{Kind: 2, Attr: api.Attr{Modified: true}}, []byte{0x1d, 0xc1}},
		{api.Order{Kind: 2, Attr: all}, []byte{0x1d, 0x7d}},
		{api.Order{Kind: 4}, []byte{0x13}},
		{api.Order{Kind: 5}, []byte{0x05}},
	}
	for _, a := range []int{0, size / 2, size - 1} {
		at := place(a, size)
		list = append(list,
			sample{api.Order{Kind: 3, Addr: a}, slices.Concat([]byte{0x11}, at)},
			sample{api.Order{Kind: 7, Addr: a}, slices.Concat([]byte{0x12}, at)},
			sample{api.Order{Kind: 6, Addr: a}, slices.Concat([]byte{0x3c}, at, []byte{0})},
			sample{api.Order{Kind: 6, Addr: a, Char: 0xfe}, slices.Concat([]byte{0x3c}, at, []byte{0xfe})},
		)
	}
	return list
}

// wrong is an order that isn't right, and what is wrong with it.
type wrong struct {
	o    api.Order
	code api.Errno
}

// wrongs is orders of each kind, and of none, that aren't right for a size.
func wrongs(size int) []wrong {
	return []wrong{
		{api.Order{}, api.ErrOrder},
		{api.Order{Kind: 8}, api.ErrOrder},
		{api.Order{Kind: -1, Text: []byte{0x11}}, api.ErrOrder},
		{api.Order{Kind: math.MinInt, Addr: size}, api.ErrOrder},
		{api.Order{Kind: math.MaxInt}, api.ErrOrder},
		{api.Order{Kind: 1}, api.ErrArg},
		{api.Order{Kind: 1, Text: []byte{}}, api.ErrArg},
		{api.Order{Kind: 1, Text: []byte{0xc1, 0x1d}}, api.ErrArg},
		{api.Order{Kind: 1, Text: []byte{0xff}}, api.ErrArg},
		{api.Order{Kind: 1, Text: []byte{0xc1}, Addr: size}, api.ErrArg},
		{api.Order{Kind: 2, Attr: api.Attr{Show: 4}}, api.ErrArg},
		{api.Order{Kind: 2, Text: []byte{0xc1}}, api.ErrArg},
		{api.Order{Kind: 3, Addr: size}, api.ErrAddr},
		{api.Order{Kind: 3, Addr: -1}, api.ErrAddr},
		{api.Order{Kind: 3, Addr: size, Char: 0x40}, api.ErrArg},
		{api.Order{Kind: 4, Addr: -1}, api.ErrArg},
		{api.Order{Kind: 5, Attr: api.Attr{Modified: true}}, api.ErrArg},
		{api.Order{Kind: 6, Addr: math.MaxInt}, api.ErrAddr},
		{api.Order{Kind: 6, Char: 0xff}, api.ErrArg},
		{api.Order{Kind: 7, Addr: math.MinInt}, api.ErrAddr},
		{api.Order{Kind: 7, Text: []byte{0}}, api.ErrArg},
	}
}

// wrongBytes is bytes that are no order: the error, and its place from their beginning on.
type wrongBytes struct {
	b    []byte
	code api.Errno
	at   int
}

// wrongReads is bytes that aren't an order of a size, alone or with others behind them.
func wrongReads(size int) []wrongBytes {
	list := []wrongBytes{
		{[]byte{0xff}, api.ErrOrder, 0},
		{[]byte{0x3f, 0x40}, api.ErrOrder, 0},
		{[]byte{0x01, 0x11}, api.ErrOrder, 0},
		{[]byte{0x1d}, api.ErrCut, 1},
		{[]byte{0x1d, 0xc2, 0x40}, api.ErrByte, 1},
		{[]byte{0x1d, 0x1d, 0x40}, api.ErrByte, 1},
		{[]byte{0x11}, api.ErrCut, 1},
		{[]byte{0x12, 0}, api.ErrCut, 1},
		{[]byte{0x3c, 0x40}, api.ErrCut, 1},
		{[]byte{0x11, 0xff, 0xff}, api.ErrByte, 1},
		{[]byte{0x3c, 0xff, 0x40, 0xff}, api.ErrByte, 1},
		{slices.Concat([]byte{0x3c}, place(0, size)), api.ErrCut, 3},
		{slices.Concat([]byte{0x3c}, place(0, size), []byte{0xff, 0x40}), api.ErrByte, 3},
		{slices.Concat([]byte{0x3c}, place(size-1, size), []byte{0x11}), api.ErrByte, 3},
	}
	if size != 4096 { // of which each address that can be written short is one
		list = append(list,
			wrongBytes{slices.Concat([]byte{0x11}, place(size, size), []byte{0xff}), api.ErrAddr, 1},
			wrongBytes{slices.Concat([]byte{0x12}, place(size, size)), api.ErrAddr, 1},
			wrongBytes{slices.Concat([]byte{0x3c}, place(size, size)), api.ErrAddr, 1},
		)
	}
	return list
}

// command is a command that writes the orders, and its bytes.
func command(cmd, wcc int, list []sample) (api.Out, []byte) {
	o := api.Out{Cmd: cmd, Wcc: wccOf(wcc)}
	b := []byte{byte(cmd), graphics[wcc]}
	for _, x := range list {
		o.Orders = append(o.Orders, x.o)
		b = append(b, x.b...)
	}
	return o, b
}

// apart is the orders with a Tab between two of characters that stand side by side.
func apart(list []sample) []sample {
	var out []sample
	for i, x := range list {
		if i > 0 && x.o.Kind == 1 && list[i-1].o.Kind == 1 {
			out = append(out, sample{api.Order{Kind: 5}, []byte{0x05}})
		}
		out = append(out, x)
	}
	return out
}

// answer is what Read shall answer: the command; or an error's number and its place.
type answer struct {
	o    api.Out
	code api.Errno
	at   int
}

// read is the command whose bytes these are, by the document's words; of orders layer 7 tells.
func read(b []byte, size int) answer {
	switch {
	case len(b) > 8192:
		return answer{code: api.ErrLong, at: 8192}
	case len(b) == 0:
		return answer{code: api.ErrCut}
	case !isCmd(int(b[0])):
		return answer{code: api.ErrOrder}
	case !isWriter(int(b[0])) && len(b) > 1:
		return answer{code: api.ErrArg, at: 1}
	case !isWriter(int(b[0])):
		return answer{o: api.Out{Cmd: int(b[0])}}
	case len(b) == 1:
		return answer{code: api.ErrCut, at: 1}
	}
	wcc := slices.Index(graphics[:8], b[1])
	if wcc < 0 {
		return answer{code: api.ErrByte, at: 1}
	}
	o := api.Out{Cmd: int(b[0]), Wcc: wccOf(wcc)}
	c := bytes.New(b)
	for c.Take(2); c.Left() > 0; {
		x := order.Get(c, size)
		if c.Err() != nil {
			return answer{code: api.Errno(api.Code(c.Err())), at: c.At()}
		}
		o.Orders = append(o.Orders, x)
	}
	return answer{o: o}
}

// alike tells, by the library alone, whether two commands are: nil and empty lists are one.
func alike(a, b api.Out) bool {
	return a.Cmd == b.Cmd && a.Wcc == b.Wcc && slices.EqualFunc(a.Orders, b.Orders, func(x, y api.Order) bool {
		return x.Kind == y.Kind && string(x.Text) == string(y.Text) && x.Attr == y.Attr && x.Addr == y.Addr && x.Char == y.Char
	})
}

// checkError holds an error against the number and the place that it shall have; a place of none: it has no Spot.
func checkError(t *testing.T, err error, want api.Errno, at int) {
	t.Helper()
	if !errors.Is(err, want) || api.Code(err) != int(want) {
		t.Fatalf("the error is %v, not %v", err, want)
	}
	var spot *api.Spot
	if errors.As(err, &spot) != (at != none) || api.Where(err) != at {
		t.Fatalf("%v is at %d, not at %d", err, api.Where(err), at)
	}
}

// checkWrite holds Write of a right command against its bytes, and reads them back.
func checkWrite(t *testing.T, o api.Out, size int, want []byte) {
	t.Helper()
	b, err := stream.Write(o, size)
	if err != nil || !slices.Equal(b, want) {
		t.Fatalf("%v, size %d: %x and %v, not %x", o, size, b, err, want)
	}
	checkRead(t, b, size, o)
}

// checkNoWrite holds Write of a command that isn't right against the error that it shall answer.
func checkNoWrite(t *testing.T, o api.Out, size int, want api.Errno, at int) {
	t.Helper()
	b, err := stream.Write(o, size)
	if len(b) != 0 {
		t.Fatalf("%v, size %d: %x beside %v", o, size, b, err)
	}
	checkError(t, err, want, at)
}

// checkRead holds Read of a command's bytes against the command, and writes it back.
func checkRead(t *testing.T, b []byte, size int, want api.Out) {
	t.Helper()
	o, err := stream.Read(b, size)
	if err != nil || !alike(o, want) || !stream.Same(o, want) || !stream.Same(want, o) {
		t.Fatalf("%x, size %d: %v and %v, not %v", b, size, o, err, want)
	}
	if again, err := stream.Write(o, size); err != nil || !slices.Equal(again, b) {
		t.Fatalf("%x, size %d: written back %x and %v", b, size, again, err)
	}
}

// checkNoRead holds Read of bytes that are no command's against the error that it shall answer.
func checkNoRead(t *testing.T, b []byte, size int, want api.Errno, at int) {
	t.Helper()
	o, err := stream.Read(b, size)
	if !alike(o, api.Out{}) {
		t.Fatalf("%x, size %d: %v beside %v", b, size, o, err)
	}
	checkError(t, err, want, at)
}

// checkBytes holds Read of any bytes against the document's words.
func checkBytes(t *testing.T, b []byte, size int) {
	t.Helper()
	want := read(b, size)
	if want.code != 0 {
		checkNoRead(t, b, size, want.code, want.at)
		return
	}
	checkRead(t, b, size, want.o)
}
