package window_test

import (
	"math"
	"testing"

	"shutter/api"
	"shutter/window"
)

// checkRight holds Right against an answer.
func checkRight(t *testing.T, s api.Seen, want bool) {
	t.Helper()
	if got := window.Right(s); got != want {
		t.Errorf("%d, %#x: Right is %v, not %v", s.Top, s.Bits, got, want)
	}
}

// P20.1: Bits of 0 are 0: none else is right, nor any below 0, whatever the Bits.
func TestRightOfNothing(t *testing.T) {
	checkRight(t, api.Seen{}, true)
	for _, top := range []int{0, -1, -2, -3, -63, -64, -65, -128, -1 << 32, -greatest, -greatest - 1, math.MinInt, math.MinInt + 1, math.MinInt + 64} {
		checkRight(t, api.Seen{Top: top}, top == 0)
		for k := range width {
			checkRight(t, api.Seen{Top: top, Bits: 1 << k}, false)
			checkRight(t, api.Seen{Top: top, Bits: 1 | 1<<k}, false)
			checkRight(t, api.Seen{Top: top, Bits: all << k}, false)
			checkRight(t, api.Seen{Top: top, Bits: all >> k}, false)
		}
	}
}

// P20.1: each single bit beside the lowest one is right where it tells of 1 or more; none is without the lowest one.
func TestRightOfSingleBits(t *testing.T) {
	for top := 1; top <= 66; top++ {
		checkRight(t, api.Seen{Top: top, Bits: 1}, true)
		checkRight(t, api.Seen{Top: top}, false)
		for k := 1; k < width; k++ {
			checkRight(t, api.Seen{Top: top, Bits: 1 | 1<<k}, k < top)
			checkRight(t, api.Seen{Top: top, Bits: 1 << k}, false)
		}
	}
}

// P20.1: the lowest bits, as many as there are numbers, are right; one more isn't, but where there are 64 and more.
func TestRightOfManyBits(t *testing.T) {
	for top := 1; top <= 130; top++ {
		for count := 1; count <= width; count++ {
			bits := uint64(all) >> (width - count)
			checkRight(t, api.Seen{Top: top, Bits: bits}, count <= top)
			checkRight(t, api.Seen{Top: top, Bits: bits - 1}, false)
		}
	}
	checkRight(t, api.Seen{Top: 63, Bits: all}, false)
	checkRight(t, api.Seen{Top: 63, Bits: all >> 1}, true)
	checkRight(t, api.Seen{Top: 64, Bits: all}, true)
	checkRight(t, api.Seen{Top: 65, Bits: all}, true)
	checkRight(t, api.Seen{Top: 65, Bits: all - 1}, false)
}

// P20.1: the greatest Top is 2^62; those above are none's, whatever the Bits.
func TestRightOfGreatTops(t *testing.T) {
	tops := []int{1 << 31, 1 << 32, 1<<32 + 3, greatest - 64, greatest - 1, greatest, greatest + 1, greatest + 2, greatest + 63, greatest + 64, greatest + 1<<32, greatest + greatest/2, math.MaxInt - 1, math.MaxInt}
	for _, top := range tops {
		checkRight(t, api.Seen{Top: top}, false)
		checkRight(t, api.Seen{Top: top, Bits: 1}, top <= greatest)
		checkRight(t, api.Seen{Top: top, Bits: all}, top <= greatest)
		checkRight(t, api.Seen{Top: top, Bits: all - 1}, false)
		for k := 1; k < width; k++ {
			checkRight(t, api.Seen{Top: top, Bits: 1 | 1<<k}, top <= greatest)
			checkRight(t, api.Seen{Top: top, Bits: 1 << k}, false)
		}
	}
}

// P20.1: what the model calls right is, and nothing else.
func TestRightOfAll(t *testing.T) {
	for _, s := range rights() {
		if !right(s) {
			t.Fatalf("%v: not right by the model", s)
		}
		checkRight(t, s, true)
	}
	for _, s := range wrongs() {
		checkRight(t, s, false)
	}
	for top := -3; top <= 70; top++ {
		for bits := range uint64(1 << 10) {
			checkRight(t, api.Seen{Top: top, Bits: bits}, right(api.Seen{Top: top, Bits: bits}))
			checkRight(t, api.Seen{Top: top, Bits: bits<<54 | 1}, right(api.Seen{Top: top, Bits: bits<<54 | 1}))
		}
	}
}
