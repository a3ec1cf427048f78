package window_test

import (
	"testing"

	"shutter/api"
	"shutter/window"
)

// run lets numbers in, one behind the other, and holds each answer against a list of all that were let in.
type run struct {
	t    *testing.T
	seen api.Seen
	past past
}

// newRun is one of which nothing was let in.
func newRun(t *testing.T) *run { return &run{t: t, past: pastOf(api.Seen{})} }

// let hands in a number.
func (r *run) let(n int) {
	r.t.Helper()
	checkLet(r.t, r.seen, r.past, n)
	if r.past.refuses(n) == 0 {
		r.seen = r.past.with(n)
		r.past.add(n)
	}
	if !window.Right(r.seen) {
		r.t.Fatalf("%v, behind %d: not right", r.seen, n)
	}
}

// checkTold holds Has of all numbers from a first up to a last one against the list.
func (r *run) checkTold(from, to int) {
	r.t.Helper()
	for n := from; n <= to; n++ {
		checkHas(r.t, r.seen, n, r.past.tells(n))
	}
}

// chance is numbers of no rule, but the same in every run.
type chance uint64

// below is the next one, from 0 up to n.
func (c *chance) below(n int) int {
	*c = *c*6364136223846793005 + 1442695040888963407
	return int(uint64(*c)>>11) % n
}

// shuffled is the numbers from a first one up to a last one in an order of no rule.
func (c *chance) shuffled(from, to int) []int {
	list := []int{}
	for n := from; n <= to; n++ {
		list = append(list, n)
	}
	for i := range list {
		j := c.below(i + 1)
		list[i], list[j] = list[j], list[i]
	}
	return list
}

// P20.2: of six numbers five, in every order there is, each of them again and again.
func TestFewInAllOrders(t *testing.T) {
	for _, few := range [][]int{{1, 2, 64, 65, 66, 129}, {1, 63, 64, 127, 128, 0}, {5, 3, 4, 68, 69, 1 << 40}, {greatest, greatest - 1, greatest - 63, greatest - 64, 1, greatest + 1}} {
		for order := range 6 * 6 * 6 * 6 * 6 {
			r := newRun(t)
			for range 5 {
				n := few[order%len(few)]
				r.let(n)
				r.let(n)
				order /= len(few)
			}
			for _, n := range few {
				checkHas(t, r.seen, n, r.past.tells(n))
				checkHas(t, r.seen, n+1, r.past.tells(n+1))
			}
		}
	}
}

// P20.2: rising ones, one by one and with gaps, each of them again behind the next ones.
func TestRising(t *testing.T) {
	for _, gap := range []int{1, 2, 3, 7, 31, 32, 33, 62, 63, 64, 65, 100, 1 << 32} {
		r := newRun(t)
		for n := 1; n <= 200*gap; n += gap {
			r.let(n)
			for back := n; back >= 1 && back >= n-70*gap; back -= gap {
				r.let(back)
			}
			r.checkTold(n-70, n+2)
		}
	}
}

// P20.2: falling ones: those within the 64 are let in once, all others never.
func TestFalling(t *testing.T) {
	for _, top := range []int{1, 2, 63, 64, 65, 66, 128, 200, 1 << 40, greatest} {
		r := newRun(t)
		for n := top; n >= top-150; n-- {
			r.let(n)
			r.let(n)
		}
		if want := min(top, width); len(r.past.numbers) != want {
			t.Errorf("%d were let in up to %d, not %d", len(r.past.numbers), top, want)
		}
		r.checkTold(top-150, top+2)
	}
}

// P20.2: in orders of no rule, which come ahead of and behind one another by some, and each comes again.
func TestShuffled(t *testing.T) {
	c := chance(1)
	for _, base := range []int{0, 1, 1<<32 - 150, greatest - 400} {
		for _, late := range []int{1, 2, 10, 40, 63, 64, 65, 100, 400} {
			for range 4 {
				r := newRun(t)
				for at := 1; at <= 400; at += late {
					part := c.shuffled(base+at, base+min(400, at+late-1))
					for i, n := range part {
						r.let(n)
						r.let(part[c.below(i+1)])
						r.let(base + 1 + c.below(400))
					}
				}
				r.checkTold(base-2, base+403)
			}
		}
	}
}

// P20.2: those that are late by less than 64 are all let in, whatever their order; behind them none is.
func TestLateOnes(t *testing.T) {
	c := chance(2)
	for top := 64; top <= 130; top++ {
		r := newRun(t)
		r.let(top)
		list := c.shuffled(top-63, top-1)
		for _, n := range list {
			if _, err := window.Let(r.seen, n); err != nil {
				t.Fatalf("%v, %d: %v", r.seen, n, err)
			}
			r.let(n)
		}
		if want := (api.Seen{Top: top, Bits: all}); r.seen != want {
			t.Fatalf("%v, not %v", r.seen, want)
		}
		for n := 1; n <= top; n++ {
			checkAnswer(t, r.seen, n, r.seen, api.ErrOld)
		}
	}
}

// P20.2: whatever came, a greater one than all is let in, and those that weren't are within the 64.
func TestNumbersOfNoRule(t *testing.T) {
	c := chance(3)
	for range 60 {
		r := newRun(t)
		counts := map[int]int{}
		for range 300 {
			n := r.next(&c)
			was := r.seen
			then, err := window.Let(was, n)
			if err == nil {
				counts[n]++
			}
			if counts[n] > 1 {
				t.Fatalf("%d: let in again", n)
			}
			if isNumber := n >= 1 && n <= greatest; isNumber && (n > was.Top || n > was.Top-width && counts[n] == 0) && err != nil {
				t.Fatalf("%v, %d: %v", was, n, err)
			}
			r.let(n)
			if r.seen != then {
				t.Fatalf("%v, %d: %v, and then %v", was, n, then, r.seen)
			}
			r.checkTold(r.seen.Top-66, r.seen.Top+2)
		}
	}
}

// next is a number near the greatest one, a far one, one that was let in before, or none.
func (r *run) next(c *chance) int {
	switch c.below(8) {
	case 0:
		return noNumbers[c.below(len(noNumbers))]
	case 1:
		return r.seen.Top + (greatest-r.seen.Top)>>(20+c.below(40))
	case 2:
		return 1 + c.below(greatest)>>c.below(62)
	case 3, 4:
		return r.seen.Top + 1 + c.below(70)
	}
	return r.seen.Top - c.below(70)
}

// P20.2: what is right stays so: of every right one with every number, and behind more of them.
func TestRightStays(t *testing.T) {
	for _, s := range rights() {
		for _, n := range about(s.Top) {
			then, err := window.Let(s, n)
			if !window.Right(then) || err != nil && then != s {
				t.Fatalf("%v, %d: %v, %v", s, n, then, err)
			}
		}
	}
	c := chance(4)
	list := rights()
	for range 3000 {
		r := &run{t: t, seen: list[c.below(len(list))]}
		r.past = pastOf(r.seen)
		for range 20 {
			r.let(r.next(&c))
		}
	}
}
