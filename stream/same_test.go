package stream_test

import (
	"math"
	"slices"
	"testing"

	"shutter/api"
	"shutter/stream"
)

// full is a command in which every part stands; two of them share no memory.
func full() api.Out {
	return api.Out{Cmd: 0xf1, Wcc: api.Wcc{Alarm: true, Unlock: true, Reset: true}, Orders: []api.Order{
		{Kind: 3, Addr: 80},
		{Kind: 2, Attr: api.Attr{Protected: true, Numeric: true, Show: 2, Modified: true}},
		{Kind: 1, Text: []byte{0xc1, 0, 0xc3}},
		{Kind: 6, Addr: 7, Char: 0x5c},
	}}
}

// checkSame holds Same of two commands, in both orders of them, against what it shall be.
func checkSame(t *testing.T, a, b api.Out, want bool) {
	t.Helper()
	if stream.Same(a, b) != want || stream.Same(b, a) != want {
		t.Fatalf("%v and %v: %t, and turned %t", a, b, stream.Same(a, b), stream.Same(b, a))
	}
}

// P8.3: commands that differ in one part alone are not alike; with that part given too, they are.
func TestSameOnePart(t *testing.T) {
	for name, change := range map[string]func(o *api.Out){
		"cmd":          func(o *api.Out) { o.Cmd = 0xf5 },
		"no cmd":       func(o *api.Out) { o.Cmd = 0 },
		"far cmd":      func(o *api.Out) { o.Cmd = math.MinInt },
		"cmd above":    func(o *api.Out) { o.Cmd += 256 },
		"half above":   func(o *api.Out) { o.Cmd += half },
		"alarm":        func(o *api.Out) { o.Wcc.Alarm = false },
		"unlock":       func(o *api.Out) { o.Wcc.Unlock = false },
		"reset":        func(o *api.Out) { o.Wcc.Reset = false },
		"no wcc":       func(o *api.Out) { o.Wcc = api.Wcc{} },
		"no orders":    func(o *api.Out) { o.Orders = nil },
		"empty orders": func(o *api.Out) { o.Orders = []api.Order{} },
		"fewer":        func(o *api.Out) { o.Orders = o.Orders[:3] },
		"without one":  func(o *api.Out) { o.Orders = o.Orders[1:] },
		"more":         func(o *api.Out) { o.Orders = append(o.Orders, api.Order{Kind: 5}) },
		"empty more":   func(o *api.Out) { o.Orders = append(o.Orders, api.Order{}) },
		"turned":       func(o *api.Out) { slices.Reverse(o.Orders) },
		"kind":         func(o *api.Out) { o.Orders[0].Kind = 7 },
		"address":      func(o *api.Out) { o.Orders[0].Addr = 81 },
		"protected":    func(o *api.Out) { o.Orders[1].Attr.Protected = false },
		"show":         func(o *api.Out) { o.Orders[1].Attr.Show = 3 },
		"within":       func(o *api.Out) { o.Orders[2].Text = []byte{0xc1, 1, 0xc3} },
		"longer":       func(o *api.Out) { o.Orders[2].Text = []byte{0xc1, 0, 0xc3, 0} },
		"no text":      func(o *api.Out) { o.Orders[2].Text = nil },
		"last address": func(o *api.Out) { o.Orders[3].Addr = 0 },
		"last char":    func(o *api.Out) { o.Orders[3].Char = 0x5d },
	} {
		for _, cmd := range slices.Concat(writers, others, []int{-7}) {
			a, b := full(), full()
			a.Cmd, b.Cmd = cmd, cmd
			if name == "cmd" && cmd == 0xf5 {
				continue
			}
			checkSame(t, a, b, true)
			change(&b)
			checkSame(t, a, b, false)
			change(&a)
			checkSame(t, a, b, true)
		}
	}
}

// P8.3: nil and empty lists, of orders and of characters, are one.
func TestSameEmpty(t *testing.T) {
	for _, empty := range [][]api.Order{nil, {}, make([]api.Order, 0, 2), []api.Order{{Kind: 3}}[:0]} {
		for _, cmd := range slices.Concat(writers, others, []int{0}) {
			checkSame(t, api.Out{Cmd: cmd, Orders: empty}, api.Out{Cmd: cmd}, true)
			checkSame(t, api.Out{Cmd: cmd, Orders: empty}, api.Out{Cmd: cmd, Orders: []api.Order{}}, true)
			checkSame(t, api.Out{Cmd: cmd, Orders: empty}, api.Out{Cmd: cmd, Orders: []api.Order{{}}}, false)
		}
	}
	checkSame(t, api.Out{}, api.Out{}, true)
	checkSame(t, api.Out{Orders: []api.Order{{Kind: 1, Text: []byte{}}}}, api.Out{Orders: []api.Order{{Kind: 1}}}, true)
}

// P8.3: right commands, and those that aren't, are each like themselves alone.
func TestSameEach(t *testing.T) {
	var list []api.Out
	for _, cmd := range slices.Concat(writers, others, []int{0, -1, 256, math.MinInt, math.MaxInt}) {
		for wcc := range 8 {
			list = append(list, api.Out{Cmd: cmd, Wcc: wccOf(wcc)}, api.Out{Cmd: cmd, Wcc: wccOf(wcc), Orders: []api.Order{{Kind: 5}}})
		}
	}
	for _, x := range rights(1920) {
		list = append(list, api.Out{Cmd: 0xf1, Orders: []api.Order{x.o}}, api.Out{Cmd: 0xf1, Orders: []api.Order{x.o, x.o}})
	}
	for i, a := range list {
		for j, b := range list {
			checkSame(t, a, b, i == j || alike(a, b))
		}
	}
}

// P8.4: Same changes neither command.
func TestSameHandedInStays(t *testing.T) {
	a, b := full(), full()
	b.Orders = append(b.Orders, api.Order{Kind: 1, Text: []byte{0x40}})
	stream.Same(a, b)
	stream.Same(a, a)
	if !alike(a, full()) || len(b.Orders) != 5 || !alike(api.Out{Orders: b.Orders[:4]}, api.Out{Orders: full().Orders}) || string(b.Orders[4].Text) != "\x40" {
		t.Errorf("%v and %v", a, b)
	}
}
