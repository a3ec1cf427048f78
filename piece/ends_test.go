package piece_test

import (
	"math"
	"testing"

	"shutter/api"
	"shutter/piece"
)

// P1: no call panics, of nothing, of great ones and of what may not be; each answers by the document's words.
func TestGreatOnes(t *testing.T) {
	great := make([]byte, 1<<22)
	for _, b := range [][]byte{nil, {}, great, great[:8], great[:9], great[:73], great[:74], great[:8192], great[:8193]} {
		checkCut(t, b)
		checkRead(t, b)
		for _, n := range []int{0, 1, -1, greatest, greatest + 1, math.MaxInt, math.MinInt} {
			for _, last := range []bool{false, true} {
				p := api.Pack{Ack: n, Num: n, Last: last, Data: b}
				checkWrite(t, p)
				if !piece.Same(p, p) {
					t.Fatalf("%s isn't like itself", told(p))
				}
			}
		}
	}
}

// P1: packs and bytes of no rule.
func TestOfNoRule(t *testing.T) {
	c := chance(3)
	number := func() int { return (c.below(math.MaxInt) - c.below(math.MaxInt)) >> c.below(64) }
	for range 50000 {
		b := c.bytes(c.below(90))
		if len(b) > 8 && c.below(4) > 0 {
			b[0], b[4], b[8] = b[0]>>c.below(9), b[4]>>c.below(9), b[8]&1
		}
		checkRead(t, b)
		if len(b) > 0 {
			checkCut(t, b)
		}
		p := api.Pack{Ack: number(), Num: number(), Last: c.below(2) == 0, Data: b}
		checkWrite(t, p)
		p.Ack, p.Num = p.Ack&greatest, p.Num&3
		checkWrite(t, p)
	}
}
