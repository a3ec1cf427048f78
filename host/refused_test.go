package host_test

import (
	"errors"
	"math"
	"math/bits"
	"slices"
	"testing"

	"shutter/api"
	"shutter/host"
	"shutter/stream"
)

// half is a number none of whose lower bits are set.
const half = 1 << (bits.UintSize / 2)

// refused is an order that isn't right, and its error.
type refused struct {
	order api.Order
	code  api.Errno
}

// refusedOrders is orders that aren't right for so many cells.
func refusedOrders(size int) []refused {
	list := []refused{
		{api.Order{}, api.ErrOrder}, {api.Order{Kind: 8}, api.ErrOrder}, {api.Order{Kind: math.MinInt, Addr: -1}, api.ErrOrder},
		{api.Order{Kind: api.Text}, api.ErrArg}, {api.Order{Kind: api.Text, Text: []byte{0xc1, 0x11}}, api.ErrArg}, {api.Order{Kind: api.Text, Text: []byte{0xff}}, api.ErrArg},
		{api.Order{Kind: api.Start, Attr: api.Attr{Show: 4}}, api.ErrArg}, {api.Order{Kind: api.Start, Attr: api.Attr{Protected: true, Show: -1}}, api.ErrArg},
		{api.Order{Kind: api.Start, Char: star}, api.ErrArg}, {api.Order{Kind: api.Cursor, Addr: 1}, api.ErrArg}, {api.Order{Kind: api.Tab, Text: []byte{0xc1}}, api.ErrArg},
		{api.Order{Kind: api.Set, Attr: api.Attr{Modified: true}}, api.ErrArg}, {api.Order{Kind: api.Erase, Char: star}, api.ErrArg}, {repeat(0, 1), api.ErrArg},
	}
	for _, to := range []int{size, size + 1, -1, math.MaxInt, math.MinInt} {
		list = append(list, refused{set(to), api.ErrAddr}, refused{repeat(to, star), api.ErrAddr}, refused{erase(to), api.ErrAddr})
	}
	return list
}

// filledSizes is a screen of each size, and some small ones.
func filledSizes() []api.Screen {
	var list []api.Screen
	for n, x := range append([]shape{{1, 1}, {2, 1}, {2, 5}}, sizes...) {
		s := flagged(filled(x, "OaPb.N"), n+1)
		s.Cursor = len(s.Cells) - 1
		list = append(list, s)
	}
	return list
}

// P13.1: commands that there aren't: about the numbers of those that there are, and far outside, whatever else they have.
func TestNoCommand(t *testing.T) {
	known := slices.Concat(writers, readers, []int{api.CmdClean})
	cmds := []int{math.MinInt, math.MinInt + 1, math.MaxInt32, math.MinInt32, math.MaxInt}
	for cmd := -300; cmd < 600; cmd++ {
		cmds = append(cmds, cmd)
	}
	for _, cmd := range known {
		cmds = append(cmds, cmd+65536, cmd-65536, cmd+half, cmd-half, math.MinInt+cmd)
	}
	for i, cmd := range cmds {
		if slices.Contains(known, cmd) {
			continue
		}
		s := flagged(drawn("OaPbN", i%5), i%4)
		for _, o := range []api.Out{{}, {Wcc: wccs()[i%8]}, {Orders: []api.Order{text("c"), cursor}}, {Wcc: wccs()[7], Orders: []api.Order{set(5), {}}}} {
			o.Cmd = cmd
			checkRefused(t, s, o, api.ErrOrder, none)
		}
	}
}

// P13.1: commands that don't write, beside something of those that do, right or wrong.
func TestNoWriter(t *testing.T) {
	for _, cmd := range append([]int{api.CmdClean}, readers...) {
		for _, s := range filledSizes() {
			for _, w := range wccs() {
				if w != (api.Wcc{}) {
					checkRefused(t, s, api.Out{Cmd: cmd, Wcc: w}, api.ErrArg, none)
				}
				for _, l := range [][]api.Order{{cursor}, {text("a"), tab}, {{}}, {set(-1), cursor}, make([]api.Order, 9000)} {
					checkRefused(t, s, api.Out{Cmd: cmd, Wcc: w, Orders: l}, api.ErrArg, none)
				}
			}
		}
	}
}

// P13.1: an order that isn't right, at each place among right ones: nothing is done, neither those ahead of it nor what the write tells besides.
func TestRefusedOrders(t *testing.T) {
	ahead := []api.Order{text("abc"), start('q'), cursor, repeat(0, star), tab, erase(0)}
	for _, s := range filledSizes() {
		for i, r := range refusedOrders(len(s.Cells)) {
			for n := range len(ahead) + 1 {
				for j, l := range [][]api.Order{
					append(slices.Clone(ahead[:n]), r.order),
					slices.Concat(ahead[:n], []api.Order{r.order}, ahead[n:]),
					slices.Concat(ahead[:n], []api.Order{r.order, tab, {Kind: 9}, set(len(s.Cells)), repeat(0, 1)}),
				} {
					if r.order.Kind == api.Text && n == 1 {
						continue // behind characters: wrong in two ways
					}
					checkRefused(t, s, api.Out{Cmd: writers[i%2], Wcc: wccs()[(i+n+j)%8], Orders: l}, r.code, n)
				}
			}
		}
	}
}

// P13.1: characters right behind characters, which layer 12 would do, are refused at the second ones.
func TestRefusedTexts(t *testing.T) {
	for _, cmd := range writers {
		for _, s := range filledSizes() {
			for _, x := range []struct {
				where int
				l     []api.Order
			}{
				{1, []api.Order{text("a"), text("b")}},
				{2, []api.Order{tab, text("a"), text("b"), text("c")}},
				{3, []api.Order{text("a"), cursor, text("b"), text("b"), {Kind: 9}}},
				{4, []api.Order{start('o'), text("a"), tab, text("ab"), text("c"), tab, text("d")}},
			} {
				checkRefused(t, s, api.Out{Cmd: cmd, Wcc: wccs()[x.where], Orders: x.l}, api.ErrArg, x.where)
			}
		}
	}
}

// P13.1: one byte more than there may be, and many more; an order that isn't right is told ahead of that.
func TestTooManyBytes(t *testing.T) {
	sets := make([]api.Order, 2730)
	for i := range sets {
		sets[i] = set(0)
	}
	for _, cmd := range writers {
		for _, s := range filledSizes() {
			for _, l := range [][]api.Order{append(sets[:2730:2730], tab), {{Kind: api.Text, Text: make([]byte, 8191)}}, {{Kind: api.Text, Text: make([]byte, 100000)}, start('o')}} {
				checkRefused(t, s, api.Out{Cmd: cmd, Wcc: api.Wcc{Unlock: true, Reset: true}, Orders: l}, api.ErrLong, none)
				l = append(l, api.Order{Kind: 9})
				checkRefused(t, s, api.Out{Cmd: cmd, Orders: l}, api.ErrOrder, len(l)-1)
			}
		}
	}
}

// P13.1: the error is the one that chapter 8's Write answers, of right commands and of others.
func TestErrorIsOfWrite(t *testing.T) {
	for _, s := range []api.Screen{drawn("OaPbN", 2), filled(shape{17, 241}, "OaPb")} {
		list := orders(len(s.Cells))
		for _, r := range refusedOrders(len(s.Cells)) {
			list = append(list, r.order)
		}
		for i, a := range list {
			for _, b := range list {
				for _, cmd := range []int{api.CmdWrite, api.CmdErase, api.CmdClean, api.CmdRead, api.CmdMod, 0} {
					o := api.Out{Cmd: cmd, Wcc: wccs()[i%8], Orders: []api.Order{a, b}}
					_, want := stream.Write(o, len(s.Cells))
					_, err := host.Do(s, o)
					var spot, other *api.Spot
					if (err == nil) != (want == nil) || api.Code(err) != api.Code(want) || api.Where(err) != api.Where(want) || errors.As(err, &spot) != errors.As(want, &other) {
						t.Fatalf("%v: %v at %d, not %v at %d", o, err, api.Where(err), want, api.Where(want))
					}
				}
			}
		}
	}
}
