package window_test

import (
	"testing"

	"shutter/api"
	"shutter/window"
)

// P20.1: answers that are written out.
func TestHasWrittenOut(t *testing.T) {
	for _, c := range []struct {
		seen api.Seen
		n    int
		want bool
	}{
		{api.Seen{}, 0, false},
		{api.Seen{}, 1, false},
		{api.Seen{}, -1, false},
		{api.Seen{}, greatest, false},
		{api.Seen{Top: 1, Bits: 1}, 1, true},
		{api.Seen{Top: 1, Bits: 1}, 0, false},
		{api.Seen{Top: 1, Bits: 1}, 2, false},
		{api.Seen{Top: 1, Bits: 1}, 65, false},
		{api.Seen{Top: 1, Bits: 1}, -63, false},
		{api.Seen{Top: 5, Bits: 5}, 5, true},
		{api.Seen{Top: 5, Bits: 5}, 4, false},
		{api.Seen{Top: 5, Bits: 5}, 3, true},
		{api.Seen{Top: 5, Bits: 5}, 2, false},
		{api.Seen{Top: 5, Bits: 5}, 6, false},
		{api.Seen{Top: 5, Bits: 5}, 7, false},
		{api.Seen{Top: 64, Bits: 1<<63 | 1}, 1, true},
		{api.Seen{Top: 64, Bits: 1<<63 | 1}, 2, false},
		{api.Seen{Top: 64, Bits: 1<<63 | 1}, 128, false},
		{api.Seen{Top: 65, Bits: all}, 2, true},
		{api.Seen{Top: 65, Bits: all}, 1, false},
		{api.Seen{Top: 65, Bits: all}, 0, false},
		{api.Seen{Top: greatest, Bits: all}, greatest, true},
		{api.Seen{Top: greatest, Bits: all}, greatest - 63, true},
		{api.Seen{Top: greatest, Bits: all}, greatest - 64, false},
		{api.Seen{Top: greatest, Bits: all}, greatest + 1, false},
		{api.Seen{Top: greatest, Bits: all}, 1, false},
		{api.Seen{Top: greatest, Bits: all}, -greatest, false},
	} {
		checkHas(t, c.seen, c.n, c.want)
	}
}

// P20.1: of each number within the 64 its own bit, and no other, tells.
func TestHasWithin(t *testing.T) {
	for _, s := range rights() {
		for d := range min(s.Top, width) {
			checkHas(t, s, s.Top-d, s.Bits>>d&1 == 1)
		}
	}
}

// P20.1: false of what the Bits don't reach: further below, above Top, no number, though all that they reach was let in.
func TestHasBeyond(t *testing.T) {
	for _, s := range rights() {
		for _, d := range ways() {
			if d >= width {
				checkHas(t, s, s.Top-d, false)
			}
			if d >= 1 {
				checkHas(t, s, s.Top+d, false)
			}
		}
		for _, n := range noNumbers {
			checkHas(t, s, n, false)
		}
	}
}

// P20.1: all right ones with all numbers, by the model.
func TestHasByModel(t *testing.T) {
	for _, s := range rights() {
		p := pastOf(s)
		for _, n := range about(s.Top) {
			checkHas(t, s, n, p.tells(n))
		}
	}
}

// P20.1: what was let in is told till 63 more came above it, not behind that; what wasn't never is.
func TestHasBehindLet(t *testing.T) {
	for _, first := range []int{1, 2, 63, 64, 65, 1000, 1 << 32, greatest - 70} {
		s, err := window.Let(api.Seen{}, first)
		checkError(t, api.Seen{}, first, err, 0)
		for up := 1; up <= 70; up++ {
			checkHas(t, s, first, up <= width)
			checkHas(t, s, first-1, false)
			checkHas(t, s, first+up, false)
			next, err := window.Let(s, first+up)
			checkError(t, s, first+up, err, 0)
			s = next
		}
	}
}
