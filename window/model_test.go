package window_test

import (
	"errors"
	"math"
	"testing"

	"shutter/api"
	"shutter/window"
)

// The document's numbers: how many of them Bits tell of, and the greatest there is.
const (
	width    = 64
	greatest = 1 << 62
)

// all is 64 bits that are set.
const all = math.MaxUint64

// past is every number that was let in, however long ago, and the greatest of them.
type past struct {
	numbers map[int]bool
	top     int
}

// pastOf is what the Bits of a right Seen tell of.
func pastOf(s api.Seen) past {
	p := past{numbers: map[int]bool{}}
	bits := s.Bits
	for k := range width {
		if bits%2 == 1 {
			p.add(s.Top - k)
		}
		bits /= 2
	}
	return p
}

// add puts a number to those that were let in.
func (p *past) add(n int) {
	p.numbers[n] = true
	p.top = max(p.top, n)
}

// with is what Top and Bits are behind all these and a number that is let in.
func (p past) with(n int) api.Seen {
	s := api.Seen{Top: max(p.top, n)}
	bit := uint64(1)
	for k := range width {
		if s.Top-k == n || p.numbers[s.Top-k] {
			s.Bits += bit
		}
		bit *= 2
	}
	return s
}

// refuses is the error that a number meets, by the document's words; 0: it is let in.
func (p past) refuses(n int) api.Errno {
	switch {
	case n < 1, n > greatest:
		return api.ErrArg
	case n > p.top:
		return 0
	case p.top-n >= width, p.numbers[n]:
		return api.ErrOld
	}
	return 0
}

// tells is whether the Bits, which reach no further, tell that a number was let in.
func (p past) tells(n int) bool {
	return n >= 1 && n > p.top-width && p.numbers[n]
}

// right tells whether a Seen is right, bit by bit, by the document's words.
func right(s api.Seen) bool {
	if s.Top < 0 || s.Top > greatest {
		return false
	}
	bits := s.Bits
	for k := range width {
		set := bits%2 == 1
		if k == 0 && set != (s.Top > 0) || set && s.Top-k < 1 {
			return false
		}
		bits /= 2
	}
	return true
}

// tops is what the greatest number of a right Seen may be: 0, those about each edge, the greatest and those beside.
func tops() []int {
	list := []int{96, 100, 127, 128, 129, 191, 192, 193, 1000, 1<<16 + 1, 1<<31 - 1, 1 << 31, 1<<32 - 1, 1 << 32, 1<<32 + 1, 1<<32 + 63, greatest / 2, greatest - 1000}
	for top := range 68 {
		list = append(list, top, greatest-top)
	}
	return list
}

// patterns is Bits of many kinds: the lowest one alone, all, each one beside it, each one but it, every other one.
func patterns() []uint64 {
	list := []uint64{1, all, 0x5555555555555555, 0xaaaaaaaaaaaaaaab, 0x00000000ffffffff, 0xffffffff00000001, 0x8000000000000003, 0x123456789abcdef1}
	for k := 1; k < width; k++ {
		list = append(list, 1|1<<k, all&^(1<<k))
	}
	return list
}

// rights is right ones with each of these greatest numbers and of these Bits, as far down as there are numbers.
func rights() []api.Seen {
	list := []api.Seen{{}}
	for _, top := range tops() {
		known := map[uint64]bool{}
		for _, bits := range patterns() {
			if top < width {
				bits %= 1 << top
			}
			if top > 0 && !known[bits] {
				known[bits] = true
				list = append(list, api.Seen{Top: top, Bits: bits})
			}
		}
	}
	return list
}

// wrongs is Seens that aren't right: below 0 and above the greatest number, with bits for 0 and below, without the lowest one.
func wrongs() []api.Seen {
	list := []api.Seen{}
	for _, top := range []int{-1, -2, -62, -63, -64, -65, -1000, -1 << 32, -greatest, -greatest - 1, -greatest + 1, math.MinInt, math.MinInt + 1, math.MinInt + 63, math.MinInt + greatest,
		greatest + 1, greatest + 2, greatest + 63, greatest + 64, greatest + 65, math.MaxInt - 64, math.MaxInt - 1, math.MaxInt} {
		for _, bits := range append(patterns(), 0, 2, all-1, 1<<63) {
			list = append(list, api.Seen{Top: top, Bits: bits})
		}
	}
	for _, top := range append(tops(), 0) {
		for _, bits := range append(patterns(), 0, 2, all-1, 1<<63) {
			if s := (api.Seen{Top: top, Bits: bits}); !right(s) {
				list = append(list, s)
			}
		}
	}
	return list
}

// noNumbers is what is no number: 0, those below, those above the greatest, those that differ from one in the highest bits alone.
var noNumbers = []int{0, -1, -2, -3, -62, -63, -64, -65, -128, -1000, -1 << 31, -1 << 32, -1<<32 + 1, -greatest - 1, -greatest, -greatest + 1, -greatest + 64, math.MinInt, math.MinInt + 1, math.MinInt + 5, math.MinInt + 63, math.MinInt + 64, math.MinInt + greatest,
	greatest + 1, greatest + 2, greatest + 62, greatest + 63, greatest + 64, greatest + 65, greatest + 1<<32, greatest + greatest/2, math.MaxInt - 64, math.MaxInt - 63, math.MaxInt - 1, math.MaxInt}

// ways is how far from the greatest number others lie: each as far as bits reach and somewhat further, and far ones whose lower bits are a near one's.
func ways() []int {
	list := []int{127, 128, 129, 191, 192, 193, 255, 256, 257, 320, 1000, 1 << 16, 1<<31 - 1, 1 << 31, 1<<32 - 1, 1 << 32, 1<<32 + 1, 1<<32 + 5, 1<<32 + 63, 1<<32 + 64, 1 << 40, 1 << 60, 1<<61 - 1, 1 << 61, 1<<61 + 3, greatest - 64, greatest - 63, greatest - 3, greatest - 1, greatest}
	for d := range 70 {
		list = append(list, d)
	}
	return list
}

// about is numbers, and what is none, at all distances from a right Seen's Top.
func about(top int) []int {
	list := []int{1, 2, 63, 64, 65, greatest - 1, greatest}
	for _, d := range ways() {
		list = append(list, top-d)
		if top <= math.MaxInt-d {
			list = append(list, top+d)
		}
	}
	return append(list, noNumbers...)
}

// checkError holds an error against a number: it is that one alone, without a place.
func checkError(t *testing.T, s api.Seen, n int, got error, want api.Errno) {
	t.Helper()
	if want == 0 {
		if got != nil {
			t.Fatalf("%v, %d: the error %v", s, n, got)
		}
		return
	}
	var spot *api.Spot
	if got == nil || errors.As(got, &spot) || api.Where(got) != -1 || api.Code(got) != int(want) {
		t.Fatalf("%v, %d: the error %v, not %v", s, n, got, want)
	}
	for other := api.ErrArg; other <= api.ErrNone; other++ {
		if errors.Is(got, other) != (other == want) {
			t.Fatalf("%v, %d: the error %v, and also %v", s, n, got, other)
		}
	}
}

// checkAnswer holds what Let answers against a Seen and an error.
func checkAnswer(t *testing.T, s api.Seen, n int, want api.Seen, code api.Errno) {
	t.Helper()
	got, err := window.Let(s, n)
	checkError(t, s, n, err, code)
	if got != want {
		t.Fatalf("%v, %d: %v, not %v", s, n, got, want)
	}
}

// checkLet holds Let of a right Seen, behind all that was let in, against the model.
func checkLet(t *testing.T, s api.Seen, p past, n int) {
	t.Helper()
	if code := p.refuses(n); code != 0 {
		checkAnswer(t, s, n, s, code)
		return
	}
	checkAnswer(t, s, n, p.with(n), 0)
}

// checkHas holds Has against an answer.
func checkHas(t *testing.T, s api.Seen, n int, want bool) {
	t.Helper()
	if got := window.Has(s, n); got != want {
		t.Fatalf("%v, %d: Has is %v, not %v", s, n, got, want)
	}
}
