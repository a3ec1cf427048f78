package paint_test

import (
	"math"
	"slices"
	"testing"

	"shutter/api"
	"shutter/paint"
)

// refused is an order that isn't right, and its error.
type refused struct {
	order api.Order
	code  api.Errno
}

// refusedOrders is orders that aren't right for so many cells.
func refusedOrders(size int) []refused {
	var list []refused
	for _, kind := range []int{0, 8, 9, -1, 99, math.MaxInt, math.MinInt} {
		list = append(list, refused{api.Order{Kind: kind}, api.ErrOrder}, refused{api.Order{Kind: kind, Text: []byte{1}, Addr: size, Char: 1, Attr: api.Attr{Show: 9}}, api.ErrOrder})
	}
	for _, addr := range []int{size, size + 1, -1, most, math.MaxInt, math.MinInt} {
		if addr >= 0 && addr < size {
			continue
		}
		for _, o := range []api.Order{set(addr), repeat(addr, star), erase(addr)} {
			list = append(list, refused{o, api.ErrAddr})
		}
		list = append(list, refused{repeat(addr, 1), api.ErrArg})
	}
	for _, b := range []byte{1, 5, 0x11, 0x12, 0x13, 0x1b, 0x1d, 0x1f, 0x3c, 0x3f, 0xff} {
		list = append(list, refused{repeat(0, b), api.ErrArg})
		for _, s := range [][]byte{{b}, {b, 0xc1}, {0xc1, b}, {0xc1, 0xc2, b, 0xc3}} {
			list = append(list, refused{api.Order{Kind: api.Text, Text: s}, api.ErrArg})
		}
	}
	list = append(list, refused{api.Order{Kind: api.Text}, api.ErrArg}, refused{api.Order{Kind: api.Text, Text: []byte{}}, api.ErrArg})
	for _, show := range []int{-1, 4, math.MaxInt, math.MinInt} {
		list = append(list, refused{api.Order{Kind: api.Start, Attr: api.Attr{Show: show}}, api.ErrArg})
	}
	return append(list, foreign()...)
}

// foreign is orders that have a part that their kind hasn't.
func foreign() []refused {
	var list []refused
	for _, o := range []api.Order{text("a"), start('o'), set(0), cursor, tab, repeat(0, star), erase(0)} {
		withText, withAttr, withAddr, withChar := o, o, o, o
		withText.Text, withAttr.Attr, withAddr.Addr, withChar.Char = []byte{0xc1}, api.Attr{Modified: true}, 1, star
		for i, x := range []api.Order{withText, withAttr, withAddr, withChar} {
			own := [][]int{{api.Text}, {api.Start}, {api.Set, api.Repeat, api.Erase}, {api.Repeat}}[i]
			if !slices.Contains(own, o.Kind) {
				list = append(list, refused{x, api.ErrArg})
			}
		}
	}
	return list
}

// P12.1: One of each order that isn't right, of sizes whose addresses are written short and long: the screen and the place as they were, and chapter 7's error, without a place.
func TestOneRefused(t *testing.T) {
	for _, x := range append([]shape{{1, 1}, {2, 5}, {24, 80}, {64, 64}, {17, 241}}, great...) {
		s := filled(x, "o.a.p.b")
		s.Cursor, s.Locked, s.Insert = len(s.Cells)-1, true, true
		was := twin(s)
		for _, at := range []int{0, len(s.Cells) / 2, len(s.Cells) - 1} {
			for _, r := range refusedOrders(len(s.Cells)) {
				got, to, err := paint.One(s, at, r.order)
				checkRefused(t, s, got, at, to, err, r.code, -1)
			}
		}
		if !alike(s, was) {
			t.Fatalf("%d by %d: not as it was", x.rows, x.cols)
		}
	}
}

// P12.2: All with one order that isn't right, at each place among right ones, which aren't done either.
func TestAllRefused(t *testing.T) {
	ahead := []api.Order{text("abc"), start('q'), cursor, repeat(2, star), tab, erase(0)}
	for _, picture := range []string{".....", "oa.qb"} {
		s := drawn(picture)
		s.Cursor, s.Insert = 3, true
		was := twin(s)
		for _, r := range refusedOrders(len(s.Cells)) {
			for n := range len(ahead) + 1 {
				for _, l := range [][]api.Order{
					append(slices.Clone(ahead[:n]), r.order),
					slices.Concat(ahead[:n], []api.Order{r.order}, ahead[n:]),
					slices.Concat(ahead[:n], []api.Order{r.order}, ahead[n:], []api.Order{{Kind: 9}, set(5), start('o'), repeat(0, 1)}),
				} {
					for at := range s.Cells {
						got, to, err := paint.All(s, at, l)
						checkRefused(t, s, got, at, to, err, r.code, n)
					}
				}
			}
		}
		if !alike(s, was) {
			t.Fatalf("%s: not as it was", picture)
		}
	}
}

// P12.2: of several orders that aren't right the first one is told, whatever the others are.
func TestFirstRefused(t *testing.T) {
	list := []refused{{set(5), api.ErrAddr}, {api.Order{Kind: 8}, api.ErrOrder}, {repeat(0, 1), api.ErrArg}, {erase(-1), api.ErrAddr}, {api.Order{}, api.ErrOrder}}
	s := drawn("oa.qb")
	for _, a := range list {
		for _, b := range list {
			for n, l := range [][]api.Order{{a.order, b.order}, {tab, a.order, b.order}, {text("a"), set(1), a.order, tab, b.order}, {tab, tab, cursor, a.order, b.order, b.order}} {
				got, to, err := paint.All(s, 4, l)
				checkRefused(t, s, got, 4, to, err, a.code, n)
			}
		}
	}
}

// P12.2: orders are right for the screen's size, not for what orders ahead of them did, and Spots of wide places are told.
func TestRefusedFarBehind(t *testing.T) {
	s := filled(shape{127, 129}, "o.a")
	var l []api.Order
	for range 5000 {
		l = append(l, tab)
	}
	got, at, err := paint.All(s, 7, append(l, set(most)))
	checkRefused(t, s, got, 7, at, err, api.ErrAddr, 5000)
	if _, at, err = paint.All(s, 7, append(l, set(most-1))); err != nil || at != most-1 {
		t.Errorf("%d (%v)", at, err)
	}
}
