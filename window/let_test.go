package window_test

import (
	"testing"

	"shutter/api"
)

// writtenOut is what is seen, a number, and what is seen then, or the error.
var writtenOut = []struct {
	seen api.Seen
	n    int
	then api.Seen
	code api.Errno
}{
	{api.Seen{}, 1, api.Seen{Top: 1, Bits: 1}, 0},
	{api.Seen{}, 5, api.Seen{Top: 5, Bits: 1}, 0},
	{api.Seen{}, 63, api.Seen{Top: 63, Bits: 1}, 0},
	{api.Seen{}, 64, api.Seen{Top: 64, Bits: 1}, 0},
	{api.Seen{}, 65, api.Seen{Top: 65, Bits: 1}, 0},
	{api.Seen{}, 1 << 32, api.Seen{Top: 1 << 32, Bits: 1}, 0},
	{api.Seen{}, greatest, api.Seen{Top: greatest, Bits: 1}, 0},
	{api.Seen{}, greatest + 1, api.Seen{}, api.ErrArg},
	{api.Seen{}, 0, api.Seen{}, api.ErrArg},
	{api.Seen{}, -1, api.Seen{}, api.ErrArg},
	{api.Seen{Top: 1, Bits: 1}, 1, api.Seen{Top: 1, Bits: 1}, api.ErrOld},
	{api.Seen{Top: 1, Bits: 1}, 2, api.Seen{Top: 2, Bits: 3}, 0},
	{api.Seen{Top: 1, Bits: 1}, 63, api.Seen{Top: 63, Bits: 1<<62 | 1}, 0},
	{api.Seen{Top: 1, Bits: 1}, 64, api.Seen{Top: 64, Bits: 1<<63 | 1}, 0},
	{api.Seen{Top: 1, Bits: 1}, 65, api.Seen{Top: 65, Bits: 1}, 0},
	{api.Seen{Top: 1, Bits: 1}, 66, api.Seen{Top: 66, Bits: 1}, 0},
	{api.Seen{Top: 1, Bits: 1}, greatest, api.Seen{Top: greatest, Bits: 1}, 0},
	{api.Seen{Top: 5, Bits: 1}, 3, api.Seen{Top: 5, Bits: 5}, 0},
	{api.Seen{Top: 5, Bits: 5}, 5, api.Seen{Top: 5, Bits: 5}, api.ErrOld},
	{api.Seen{Top: 5, Bits: 5}, 3, api.Seen{Top: 5, Bits: 5}, api.ErrOld},
	{api.Seen{Top: 5, Bits: 5}, 4, api.Seen{Top: 5, Bits: 7}, 0},
	{api.Seen{Top: 5, Bits: 5}, 1, api.Seen{Top: 5, Bits: 0x15}, 0},
	{api.Seen{Top: 5, Bits: 5}, 0, api.Seen{Top: 5, Bits: 5}, api.ErrArg},
	{api.Seen{Top: 5, Bits: 5}, 7, api.Seen{Top: 7, Bits: 0x15}, 0},
	{api.Seen{Top: 64, Bits: 1}, 1, api.Seen{Top: 64, Bits: 1<<63 | 1}, 0},
	{api.Seen{Top: 64, Bits: 1<<63 | 1}, 1, api.Seen{Top: 64, Bits: 1<<63 | 1}, api.ErrOld},
	{api.Seen{Top: 65, Bits: 1}, 1, api.Seen{Top: 65, Bits: 1}, api.ErrOld},
	{api.Seen{Top: 65, Bits: 1}, 2, api.Seen{Top: 65, Bits: 1<<63 | 1}, 0},
	{api.Seen{Top: 65, Bits: 1}, 3, api.Seen{Top: 65, Bits: 1<<62 | 1}, 0},
	{api.Seen{Top: 64, Bits: all}, 65, api.Seen{Top: 65, Bits: all}, 0},
	{api.Seen{Top: 64, Bits: all}, 66, api.Seen{Top: 66, Bits: all - 2}, 0},
	{api.Seen{Top: 100, Bits: 1<<40 | 1}, 127, api.Seen{Top: 127, Bits: 1<<27 | 1}, 0},
	{api.Seen{Top: greatest, Bits: 1}, greatest, api.Seen{Top: greatest, Bits: 1}, api.ErrOld},
	{api.Seen{Top: greatest, Bits: 1}, greatest - 63, api.Seen{Top: greatest, Bits: 1<<63 | 1}, 0},
	{api.Seen{Top: greatest, Bits: 1}, greatest - 64, api.Seen{Top: greatest, Bits: 1}, api.ErrOld},
	{api.Seen{Top: greatest, Bits: 1}, 1, api.Seen{Top: greatest, Bits: 1}, api.ErrOld},
	{api.Seen{Top: greatest, Bits: 1}, greatest + 1, api.Seen{Top: greatest, Bits: 1}, api.ErrArg},
	{api.Seen{Top: greatest - 1, Bits: 1}, greatest, api.Seen{Top: greatest, Bits: 3}, 0},
}

// P20.1: answers that are written out.
func TestLetWrittenOut(t *testing.T) {
	for _, c := range writtenOut {
		checkAnswer(t, c.seen, c.n, c.then, c.code)
	}
}

// The chapter's example.
func TestLetFiveThreeFive(t *testing.T) {
	checkAnswer(t, api.Seen{}, 5, api.Seen{Top: 5, Bits: 1}, 0)
	checkAnswer(t, api.Seen{Top: 5, Bits: 1}, 3, api.Seen{Top: 5, Bits: 5}, 0)
	checkAnswer(t, api.Seen{Top: 5, Bits: 5}, 5, api.Seen{Top: 5, Bits: 5}, api.ErrOld)
}

// P20.1: s and ErrArg of a number that there isn't, of whatever right Seen.
func TestLetNoNumbers(t *testing.T) {
	for _, s := range rights() {
		for _, n := range noNumbers {
			checkAnswer(t, s, n, s, api.ErrArg)
		}
	}
	for n := -600; n <= 0; n++ {
		for _, s := range []api.Seen{{}, {Top: 1, Bits: 1}, {Top: 40, Bits: 1}, {Top: 64, Bits: all}, {Top: greatest, Bits: 1}} {
			checkAnswer(t, s, n, s, api.ErrArg)
		}
	}
}

// P20.1: a number from 0 to 63 below Top, in whatever Bits, is let in if its bit wasn't set, which is all that changes.
func TestLetBelow(t *testing.T) {
	for _, s := range rights() {
		for d := range min(s.Top, width) {
			if s.Bits>>d&1 == 1 {
				checkAnswer(t, s, s.Top-d, s, api.ErrOld)
			} else {
				checkAnswer(t, s, s.Top-d, api.Seen{Top: s.Top, Bits: s.Bits | 1<<d}, 0)
			}
		}
	}
}

// P20.1: a number 64 and more below Top is ErrOld, let in before or not.
func TestLetFarBelow(t *testing.T) {
	for _, s := range rights() {
		for _, d := range append(ways(), s.Top-1, s.Top-2, s.Top-64) {
			if d >= width && s.Top-d >= 1 {
				checkAnswer(t, s, s.Top-d, s, api.ErrOld)
			}
		}
	}
	s := api.Seen{Top: 1, Bits: 1}
	for _, n := range []int{65, 129, 200} {
		checkAnswer(t, s, n, api.Seen{Top: n, Bits: 1}, 0)
		s = api.Seen{Top: n, Bits: 1}
		checkAnswer(t, s, 1, s, api.ErrOld)
	}
}

// P20.1: a number above Top is let in, however far; the Bits go up by as much, and those of 64 and more are lost.
func TestLetAbove(t *testing.T) {
	for _, s := range rights() {
		for _, d := range append(ways(), greatest-s.Top) {
			if d < 1 || d > greatest-s.Top {
				continue
			}
			want := api.Seen{Top: s.Top + d, Bits: 1}
			if d < width {
				want.Bits |= s.Bits << d
			}
			checkAnswer(t, s, s.Top+d, want, 0)
		}
	}
}

// P20.1: all right ones with all numbers, by the model.
func TestLetByModel(t *testing.T) {
	for _, s := range rights() {
		p := pastOf(s)
		for _, n := range about(s.Top) {
			checkLet(t, s, p, n)
		}
	}
}

// P20.1: each number about small Tops, by the model.
func TestLetSmallTops(t *testing.T) {
	for top := 1; top < 70; top++ {
		for _, bits := range []uint64{1, 3, 5, 1 << 20, 1<<40 | 1<<41, all, 0xf0f0f0f0f0f0f0f0} {
			if top < width {
				bits %= 1 << top
			}
			s := api.Seen{Top: top, Bits: bits | 1}
			p := pastOf(s)
			for n := -2; n <= 140; n++ {
				checkLet(t, s, p, n)
			}
		}
	}
}
