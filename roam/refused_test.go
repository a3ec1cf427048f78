package roam_test

import (
	"bytes"
	"math"
	"testing"

	"shutter/api"
	"shutter/roam"
)

// gates is gates of one key and direction, to which this and that came.
func gates(key []byte, dir int) []roam.Gate {
	list := []roam.Gate{}
	for _, seen := range []api.Seen{{}, {Top: 3, Bits: 5}, {Top: 70, Bits: all}, {Top: greatest, Bits: 1}} {
		for _, peer := range []api.Peer{{}, {Addr: "x", Seq: 2}, {Addr: "x", Seq: seen.Top}, {Addr: "", Seq: math.MaxInt}} {
			list = append(list, roam.Gate{Key: key, Dir: dir, Seen: seen, Peer: peer})
		}
	}
	return list
}

// P21.1, P21.2: a datagram with one bit of any of its bytes turned is ErrTag, and changes nothing: a new one, and one that came before.
func TestTurnedBits(t *testing.T) {
	key := some(20, 1)
	for dir := range 2 {
		for _, g := range gates(key, dir) {
			for _, n := range []int{1, 3, 71} {
				right := mail(key, dir, n, []byte("a body"))
				for i := range right {
					bad := bytes.Clone(right)
					bad[i] ^= 1 << ((i + n) % 8)
					checkRefused(t, g, "forger", bad, api.ErrTag)
					checkRefused(t, g, g.Peer.Addr, bad, api.ErrTag)
				}
				check(t, g, "y", right)
			}
		}
	}
}

// P21.1, P21.2: each bit of each byte.
func TestEachBit(t *testing.T) {
	key := some(64, 1)
	g := roam.Gate{Key: key, Dir: 1, Seen: api.Seen{Top: 4, Bits: 3}, Peer: api.Peer{Addr: "x", Seq: 4}}
	right := mail(key, 1, 6, []byte("a body"))
	for i := range right {
		for bit := range 8 {
			bad := bytes.Clone(right)
			bad[i] ^= 1 << bit
			checkRefused(t, g, "forger", bad, api.ErrTag)
		}
	}
}

// P21.1, P21.2: what is sealed with another key is ErrTag, and changes nothing.
func TestOtherKeys(t *testing.T) {
	key := some(65, 1)
	others := [][]byte{nil, {}, {0}, key[:64], key[1:], append(bytes.Clone(key), 0), append(bytes.Clone(key), key...), some(65, 2), make([]byte, 65)}
	for i := range key {
		other := bytes.Clone(key)
		other[i] ^= 1 << (i % 8)
		others = append(others, other)
	}
	for _, g := range gates(key, 0) {
		for _, other := range others {
			for _, n := range []int{1, 3, 71, greatest} {
				checkRefused(t, g, "forger", mail(other, 0, n, []byte("body")), api.ErrTag)
			}
		}
	}
	for _, g := range gates(nil, 0) {
		checkRefused(t, g, "forger", mail(key, 0, 71, []byte("body")), api.ErrTag)
	}
}

// P21.1: fewer than 26 bytes are ErrCut, more than 512 ErrLong, whatever they are; of those between the tag tells.
func TestLengths(t *testing.T) {
	key := some(20, 1)
	g := roam.Gate{Key: key, Seen: api.Seen{Top: 3, Bits: 5}, Peer: api.Peer{Addr: "x", Seq: 3}}
	right := mail(key, 0, 5, some(600, 1))
	for length := range 600 {
		code := api.ErrTag
		if length < overhead {
			code = api.ErrCut
		} else if length > most {
			code = api.ErrLong
		}
		checkRefused(t, g, "y", right[:length], code)
		checkRefused(t, g, "y", make([]byte, length), code)
		checkRefused(t, g, "y", bytes.Repeat([]byte{0xff}, length), code)
		if length >= overhead {
			check(t, g, "y", mail(key, 0, 5, some(length-overhead, 1)))
		} else if length >= tagSize {
			checkRefused(t, g, "y", tagged(key, headed(1, 0, 5, nil)[:length-tagSize]), api.ErrCut)
		}
	}
	checkRefused(t, g, "y", mail(key, 0, 5, some(mostBody+1, 1)), api.ErrLong)
	checkRefused(t, g, "y", mail(key, 0, 5, some(1<<20, 1)), api.ErrLong)
}

// P21.1: another version, and the other direction, are ErrSide, a number that is none ErrArg: with a right tag.
func TestSealedOtherwise(t *testing.T) {
	key := some(20, 1)
	noNumbers := []uint64{0, greatest + 1, greatest + 3, greatest + 1<<32, 1<<63 - 1, 1 << 63, 1<<63 + 1, 1<<63 + greatest, math.MaxUint64 - 1, math.MaxUint64}
	for dir := range 2 {
		for _, g := range gates(key, dir) {
			for _, n := range about(g.Seen.Top) {
				for _, version := range []byte{0, 2, 3, 17, 129, 255} {
					checkRefused(t, g, "y", tagged(key, headed(version, byte(dir), uint64(n), nil)), api.ErrSide)
				}
				for _, other := range []byte{byte(1 - dir), 2, 3, 128, 129, 255} {
					checkRefused(t, g, "y", tagged(key, headed(1, other, uint64(n), nil)), api.ErrSide)
				}
			}
			for _, seq := range noNumbers {
				checkRefused(t, g, "y", tagged(key, headed(1, byte(dir), seq, nil)), api.ErrArg)
				checkRefused(t, g, "y", tagged(key, headed(1, byte(1-dir), seq, nil)), api.ErrSide)
				checkRefused(t, g, "y", tagged(key, headed(2, byte(dir), seq, nil)), api.ErrSide)
			}
		}
	}
}

// P21.1: chapter 19's error comes first, of a datagram whose number was let in before or is too old, too.
func TestOrderOfErrors(t *testing.T) {
	key := some(20, 1)
	for _, n := range []int{100, 99, 40, 36, 2, 1} {
		g := roam.Gate{Key: key, Seen: api.Seen{Top: 100, Bits: all}, Peer: api.Peer{Addr: "x", Seq: 100}}
		right := mail(key, 0, n, nil)
		checkRefused(t, g, "x", right, api.ErrOld)
		checkRefused(t, g, "x", right[:25], api.ErrCut)
		checkRefused(t, g, "x", mail(key, 0, n, some(487, 1)), api.ErrLong)
		checkRefused(t, g, "x", forge(right), api.ErrTag)
		checkRefused(t, g, "x", mail(key[1:], 0, n, nil), api.ErrTag)
		checkRefused(t, g, "x", mail(key, 1, n, nil), api.ErrSide)
		checkRefused(t, g, "x", tagged(key, headed(2, 0, uint64(n), nil)), api.ErrSide)
		g.Dir = 7
		checkRefused(t, g, "x", mail(key, 7, n, nil), api.ErrArg)
	}
}

// P21.2: one that came before changes nothing, from whatever address, however often it comes again.
func TestComeBefore(t *testing.T) {
	key := some(20, 1)
	for dir := range 2 {
		g := roam.Gate{Key: key, Dir: dir}
		sent := [][]byte{}
		for _, n := range []int{10, 11, 5, 60, 73, 12, 74, 75, 137, 138, 139, greatest} {
			b := mail(key, dir, n, some(n&31, 1))
			sent = append(sent, b)
			g = check(t, g, "x", b)
			for _, old := range sent {
				for _, from := range []string{"x", "y", "", "x"} {
					checkRefused(t, g, from, old, api.ErrOld)
				}
			}
		}
	}
}
