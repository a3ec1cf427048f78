package roam_test

import (
	"bytes"
	"math"
	"testing"

	"shutter/api"
	"shutter/roam"
)

// wrongs is Seens that aren't right: below 0 and above the greatest number, with bits for 0 and below, without the lowest one.
func wrongs() []api.Seen {
	list := []api.Seen{{Bits: 1}, {Bits: 2}, {Bits: all}, {Top: 1}, {Top: 1, Bits: 3}, {Top: 5, Bits: 2}, {Top: 63, Bits: all}, {Top: 64}, {Top: 64, Bits: all - 1}, {Top: 100}, {Top: greatest}, {Top: greatest, Bits: 2}}
	for _, top := range []int{-1, -2, -63, -64, -65, -1 << 32, -greatest, math.MinInt, math.MinInt + 1, math.MinInt + 63, greatest + 1, greatest + 63, greatest + 64, math.MaxInt - 63, math.MaxInt - 1, math.MaxInt} {
		for _, bits := range []uint64{0, 1, 2, 3, 1 << 63, 1<<63 | 1, all, all - 1} {
			list = append(list, api.Seen{Top: top, Bits: bits})
		}
	}
	return list
}

// P1: no call panics at a gate whose Seen isn't right; each answers the same again, and chapter 19's errors as ever.
func TestSeensThatAreNotRight(t *testing.T) {
	key := some(20, 1)
	for _, seen := range wrongs() {
		for _, n := range []int{1, 2, 36, 37, 63, 64, 65, 100, 1 << 32, greatest - 64, greatest - 63, greatest - 1, greatest} {
			right := mail(key, 0, n, []byte("body"))
			for _, peer := range peers(n) {
				g := roam.Gate{Key: key, Seen: seen, Peer: peer}
				then, body, err := g.Come("y", right)
				again, other, err2 := g.Come("y", right)
				if !same(then, again) || !bytes.Equal(body, other) || api.Code(err) != api.Code(err2) {
					t.Fatalf("%s, %d: other answers", told(g), n)
				}
				then.Known()
				then.Come("z", right)
			}
			g := roam.Gate{Key: key, Seen: seen}
			checkRefused(t, g, "y", forge(right), api.ErrTag)
			checkRefused(t, g, "y", right[:25], api.ErrCut)
			checkRefused(t, g, "y", mail(key, 1, n, nil), api.ErrSide)
			checkRefused(t, g, "y", tagged(key, headed(1, 0, 0, nil)), api.ErrArg)
		}
	}
}

// P1: great keys, great lists of bytes, and none.
func TestGreatOnes(t *testing.T) {
	great := make([]byte, 1<<20)
	for _, key := range [][]byte{nil, great} {
		for _, b := range [][]byte{nil, {}, great, great[:26], great[:512], great[:513]} {
			for dir := -1; dir <= 2; dir++ {
				check(t, roam.Gate{Key: key, Dir: dir}, string(b), b)
			}
		}
		check(t, roam.Gate{Key: key}, string(great), mail(key, 0, 1, nil))
	}
}

// P1: gates and bytes of no rule, with a right tag and without one.
func TestGatesOfNoRule(t *testing.T) {
	c := chance(5)
	number := func() int { return (c.below(math.MaxInt) - c.below(math.MaxInt)) >> c.below(64) }
	for range 20000 {
		b := make([]byte, c.below(80))
		for i := range b {
			b[i] = byte(c.below(256))
		}
		if len(b) > 2 && c.below(4) > 0 {
			b[0], b[1], b[2] = 1, byte(c.below(3)), b[2]>>c.below(8)
		}
		g := roam.Gate{Key: b[:c.below(len(b)+1)], Dir: c.below(3), Seen: api.Seen{Top: number(), Bits: uint64(number())}, Peer: api.Peer{Addr: string(b), Seq: number()}}
		b = tagged(g.Key, b)
		g.Come("y", b)
		g.Known()
		g.Seen = seens()[c.below(len(seens()))]
		g = check(t, g, "z", b)
		check(t, g, "z", b)
	}
}
