package window_test

import (
	"math"
	"testing"

	"shutter/api"
	"shutter/window"
)

// P1: no call panics at a Seen that isn't right, with whatever number; each answers the same again.
func TestEachCallEnds(t *testing.T) {
	for _, s := range wrongs() {
		numbers := append([]int{1, 2, 63, 64, 65, 1 << 32, greatest - 1, greatest}, noNumbers...)
		for _, d := range append(ways(), math.MaxInt, math.MinInt) {
			numbers = append(numbers, s.Top-d, s.Top+d, -s.Top+d)
		}
		for _, n := range numbers {
			then, err := window.Let(s, n)
			again, other := window.Let(s, n)
			if then != again || api.Code(err) != api.Code(other) || window.Has(s, n) != window.Has(s, n) || window.Right(s) != window.Right(s) {
				t.Fatalf("%v, %d: other answers", s, n)
			}
		}
	}
}

// P1: Seens and numbers of no rule.
func TestCallsOfNoRule(t *testing.T) {
	c := chance(5)
	some := func() int { return (c.below(math.MaxInt) - c.below(math.MaxInt)) >> c.below(64) }
	for range 300000 {
		s := api.Seen{Top: some(), Bits: uint64(some())}
		n := some()
		if c.below(2) == 0 {
			n += s.Top
		}
		then, _ := window.Let(s, n)
		window.Has(then, n)
		if window.Right(s) != right(s) {
			t.Fatalf("%v: Right is %v", s, window.Right(s))
		}
		if right(s) {
			p := pastOf(s)
			checkLet(t, s, p, n)
			checkHas(t, s, n, p.tells(n))
		}
	}
}

// P20.1: an answer hangs on what is handed in alone, whatever was called between.
func TestCallsStandAlone(t *testing.T) {
	s := api.Seen{Top: 70, Bits: 5}
	for _, other := range rights() {
		window.Let(other, other.Top+1)
		window.Let(other, 0)
		window.Has(other, 69)
		checkAnswer(t, s, 69, api.Seen{Top: 70, Bits: 7}, 0)
		checkAnswer(t, s, 70, s, api.ErrOld)
		checkHas(t, s, 69, false)
		checkHas(t, s, 68, true)
	}
}
