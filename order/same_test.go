package order_test

import (
	"math"
	"slices"
	"testing"

	"shutter/api"
	"shutter/order"
)

// full is an order in which every part stands.
func full() api.Order {
	return api.Order{Kind: 3, Text: []byte{0xc1, 0, 0xc3}, Attr: api.Attr{Protected: true, Numeric: true, Show: 2, Modified: true}, Addr: 80, Char: 0x5c}
}

// checkSame holds Same of two orders, in both orders of them, against what it shall be.
func checkSame(t *testing.T, a, b api.Order, want bool) {
	t.Helper()
	if order.Same(a, b) != want || order.Same(b, a) != want {
		t.Fatalf("%v and %v: %t, and turned %t", a, b, order.Same(a, b), order.Same(b, a))
	}
}

// P7.3: orders that differ in one part alone are not alike; with that part given too, they are.
func TestSameOnePart(t *testing.T) {
	for name, change := range map[string]func(o *api.Order){
		"kind":       func(o *api.Order) { o.Kind++ },
		"no kind":    func(o *api.Order) { o.Kind = 0 },
		"far kind":   func(o *api.Order) { o.Kind = math.MinInt },
		"alike kind": func(o *api.Order) { o.Kind += half },
		"first":      func(o *api.Order) { o.Text = []byte{0xc2, 0, 0xc3} },
		"within":     func(o *api.Order) { o.Text = []byte{0xc1, 1, 0xc3} },
		"last":       func(o *api.Order) { o.Text = []byte{0xc1, 0, 0xc4} },
		"longer":     func(o *api.Order) { o.Text = []byte{0xc1, 0, 0xc3, 0} },
		"shorter":    func(o *api.Order) { o.Text = []byte{0xc1, 0} },
		"turned":     func(o *api.Order) { o.Text = []byte{0xc3, 0, 0xc1} },
		"no text":    func(o *api.Order) { o.Text = nil },
		"empty text": func(o *api.Order) { o.Text = []byte{} },
		"protected":  func(o *api.Order) { o.Attr.Protected = false },
		"numeric":    func(o *api.Order) { o.Attr.Numeric = false },
		"show":       func(o *api.Order) { o.Attr.Show = 3 },
		"far show":   func(o *api.Order) { o.Attr.Show += half },
		"modified":   func(o *api.Order) { o.Attr.Modified = false },
		"no attr":    func(o *api.Order) { o.Attr = api.Attr{} },
		"address":    func(o *api.Order) { o.Addr = 81 },
		"no address": func(o *api.Order) { o.Addr = 0 },
		"below":      func(o *api.Order) { o.Addr = -80 },
		"far":        func(o *api.Order) { o.Addr += half },
		"char":       func(o *api.Order) { o.Char = 0x5d },
		"no char":    func(o *api.Order) { o.Char = 0 },
	} {
		for kind := range 9 {
			a, b := full(), full()
			a.Kind, b.Kind = kind, kind
			if kind == 0 && name == "no kind" {
				continue
			}
			checkSame(t, a, b, true)
			change(&b)
			checkSame(t, a, b, false)
			change(&a)
			checkSame(t, a, b, true)
		}
	}
}

// P7.3: likewise of each order that is right: it is like itself alone, of all that are.
func TestSameRights(t *testing.T) {
	list := rights(1920)
	for i, a := range list {
		copied := a
		copied.Text = slices.Clone(a.Text)
		checkSame(t, a, copied, true)
		for _, b := range list[:i] {
			checkSame(t, a, b, alike(a, b))
		}
	}
}

// P7.3: nil and empty texts are one.
func TestSameEmptyText(t *testing.T) {
	for kind := range 9 {
		for _, empty := range [][]byte{nil, {}, make([]byte, 0, 5), []byte{1, 2}[:0]} {
			checkSame(t, api.Order{Kind: kind, Text: empty}, api.Order{Kind: kind}, true)
			checkSame(t, api.Order{Kind: kind, Text: empty}, api.Order{Kind: kind, Text: []byte{}}, true)
			checkSame(t, api.Order{Kind: kind, Text: empty}, api.Order{Kind: kind, Text: []byte{0}}, false)
		}
	}
	checkSame(t, api.Order{}, api.Order{}, true)
}

// P7.3: orders that aren't right are held against each other as others are.
func TestSameNotRight(t *testing.T) {
	list := []api.Order{
		{}, {Kind: -1}, {Kind: 8}, {Kind: math.MaxInt}, {Kind: math.MinInt}, {Kind: 1, Text: []byte{0x11}}, {Kind: 1, Text: []byte{0xff}},
		{Kind: 2, Attr: api.Attr{Show: 4}}, {Kind: 2, Attr: api.Attr{Show: -4}}, {Kind: 3, Addr: -1}, {Kind: 3, Addr: math.MinInt}, {Kind: 3, Addr: math.MaxInt},
		{Kind: 4, Char: 1}, {Kind: 6, Char: 0xff}, {Kind: 5, Addr: 1}, full(),
	}
	for i, a := range list {
		for j, b := range list {
			checkSame(t, a, b, i == j)
		}
	}
}

// P7.4: Same changes neither order.
func TestSameHandedInStays(t *testing.T) {
	a, b := full(), full()
	b.Text = append(b.Text, 0x40)
	order.Same(a, b)
	order.Same(a, a)
	if !alike(a, full()) || !slices.Equal(b.Text, []byte{0xc1, 0, 0xc3, 0x40}) {
		t.Errorf("%v and %v", a, b)
	}
}
