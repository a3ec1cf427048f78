package roam_test

import (
	"bytes"
	"crypto/hmac"
	"crypto/sha256"
	"encoding/binary"
	"encoding/hex"
	"errors"
	"fmt"
	"math"
	"slices"
	"testing"

	"shutter/api"
	"shutter/roam"
)

// The document's numbers: of bytes of a datagram, of those that aren't its body, of its body, of its tag; how many numbers a Seen tells of; the greatest number.
const (
	most     = 512
	overhead = 26
	mostBody = 486
	tagSize  = 16
	width    = 64
	greatest = 1 << 62
)

// all is 64 bits that are set.
const all = math.MaxUint64

// A gate is a value: the call is one of its own, not of a pointer to it.
var _ func(roam.Gate, string, []byte) (roam.Gate, []byte, error) = roam.Gate.Come
var _ func(roam.Gate) bool = roam.Gate.Known

// some is bytes without a zero, that are others for another seed.
func some(length, seed int) []byte {
	b := make([]byte, 0, length)
	for i := range length {
		b = append(b, byte(1+(i*i+3*i+11*seed)%251))
	}
	return b
}

// secrets is keys of each sort: none, short ones, those about a block's end, a long one, zeros.
func secrets() [][]byte {
	return [][]byte{nil, {}, {0}, some(1, 1), some(20, 2), some(63, 3), some(64, 4), some(65, 5), some(500, 6), make([]byte, 64)}
}

// tagged is bytes with the right tag behind them, by the library.
func tagged(key []byte, b []byte) []byte {
	m := hmac.New(sha256.New, key)
	m.Write(b)
	return append(bytes.Clone(b), m.Sum(nil)[:tagSize]...)
}

// headed is what stands ahead of a tag: any version, direction, number and body.
func headed(version, dir byte, seq uint64, body []byte) []byte {
	b := binary.BigEndian.AppendUint64([]byte{version, dir}, seq)
	return append(b, body...)
}

// mail is the datagram of a direction, with a number and a body.
func mail(key []byte, dir, seq int, body []byte) []byte {
	return tagged(key, headed(1, byte(dir), uint64(seq), body))
}

// opened is a datagram's number and body, by chapter 19's words, and the error that it meets there; 0 is none.
func opened(key []byte, dir int, b []byte) (int, []byte, api.Errno) {
	if len(b) < overhead {
		return 0, nil, api.ErrCut
	}
	if len(b) > most {
		return 0, nil, api.ErrLong
	}
	head := b[:len(b)-tagSize]
	seq := binary.BigEndian.Uint64(b[2:10])
	switch {
	case !bytes.Equal(b, tagged(key, head)):
		return 0, nil, api.ErrTag
	case b[0] != 1, int(b[1]) != dir:
		return 0, nil, api.ErrSide
	case seq == 0, seq > greatest, dir > 1:
		return 0, nil, api.ErrArg
	}
	return int(seq), head[10:], 0
}

// toldBy is the numbers that a right Seen tells of.
func toldBy(s api.Seen) []int {
	list := []int{}
	bits := s.Bits
	for k := range width {
		if bits%2 == 1 {
			list = append(list, s.Top-k)
		}
		bits /= 2
	}
	return list
}

// seenOf is the Seen of which numbers were let in, by chapter 20's words.
func seenOf(list []int) api.Seen {
	if len(list) == 0 {
		return api.Seen{}
	}
	s := api.Seen{Top: slices.Max(list)}
	bit := uint64(1)
	for k := range width {
		if slices.Contains(list, s.Top-k) {
			s.Bits += bit
		}
		bit *= 2
	}
	return s
}

// isOld tells whether a number was let in, or is too far below the greatest that was.
func isOld(list []int, n int) bool {
	return len(list) > 0 && slices.Max(list)-n >= width || slices.Contains(list, n)
}

// answer is what Come answers; code 0 is no error.
type answer struct {
	gate roam.Gate
	body []byte
	code api.Errno
}

// comes is what Come of a gate whose Seen is right answers, by the document's words.
func comes(g roam.Gate, from string, b []byte) answer {
	seq, body, code := opened(g.Key, g.Dir, b)
	if code != 0 {
		return answer{gate: g, code: code}
	}
	list := toldBy(g.Seen)
	if isOld(list, seq) {
		return answer{gate: g, code: api.ErrOld}
	}
	g.Seen = seenOf(append(list, seq))
	if seq > g.Peer.Seq {
		g.Peer = api.Peer{Addr: from, Seq: seq}
	}
	return answer{gate: g, body: body}
}

// same tells whether two gates are alike in all their parts; nil and empty keys are one.
func same(a, b roam.Gate) bool {
	return bytes.Equal(a.Key, b.Key) && a.Dir == b.Dir && a.Seen == b.Seen && a.Peer == b.Peer
}

// isError tells whether an error is that number alone, without a place; 0 is no error.
func isError(got error, want api.Errno) bool {
	if want == 0 || got == nil {
		return want == 0 && got == nil
	}
	var spot *api.Spot
	if errors.As(got, &spot) || api.Where(got) != -1 || api.Code(got) != int(want) {
		return false
	}
	for n := api.ErrArg; n <= api.ErrNone; n++ {
		if errors.Is(got, n) != (n == want) {
			return false
		}
	}
	return true
}

// checkAnswer holds Come against an answer, and tells the gate then.
func checkAnswer(t *testing.T, g roam.Gate, from string, b []byte, want answer) roam.Gate {
	t.Helper()
	then, body, err := g.Come(from, b)
	if !isError(err, want.code) {
		t.Fatalf("%s, from %.20q %s: the error %v, not %v", told(g), from, begins(b), err, want.code)
	}
	if !same(then, want.gate) {
		t.Fatalf("%s, from %.20q %s: the gate %s, not %s", told(g), from, begins(b), told(then), told(want.gate))
	}
	if !bytes.Equal(body, want.body) || err != nil && body != nil {
		t.Fatalf("%s, from %.20q %s: the body %x, not %x", told(g), from, begins(b), body, want.body)
	}
	if then.Known() != (want.gate.Peer.Seq > 0) {
		t.Fatalf("%s: Known is %v", told(then), then.Known())
	}
	return then
}

// begins is how bytes begin.
func begins(b []byte) string { return hex.EncodeToString(b[:min(len(b), 60)]) }

// told is a gate, shortly, as its key and its peer's address may be great ones.
func told(g roam.Gate) string {
	return fmt.Sprintf("{%s %d {%d %x} {%.20q %d}}", begins(g.Key), g.Dir, g.Seen.Top, g.Seen.Bits, g.Peer.Addr, g.Peer.Seq)
}

// check holds Come of a gate whose Seen is right against the model, and tells the gate then.
func check(t *testing.T, g roam.Gate, from string, b []byte) roam.Gate {
	t.Helper()
	return checkAnswer(t, g, from, b, comes(g, from, b))
}

// checkRefused holds Come against an error: the gate is as it was, in all its parts.
func checkRefused(t *testing.T, g roam.Gate, from string, b []byte, code api.Errno) {
	t.Helper()
	checkAnswer(t, g, from, b, answer{gate: g, code: code})
}

// unhex is the bytes that digits tell.
func unhex(t *testing.T, digits string) []byte {
	t.Helper()
	b, err := hex.DecodeString(digits)
	if err != nil {
		t.Fatal(err)
	}
	return b
}

// chance is numbers of no rule, but the same in every run.
type chance uint64

// below is the next one, from 0 up to n.
func (c *chance) below(n int) int {
	*c = *c*6364136223846793005 + 1442695040888963407
	return int(uint64(*c)>>11) % n
}

// shuffled is the numbers from a first one up to a last one in an order of no rule.
func (c *chance) shuffled(from, to int) []int {
	list := []int{}
	for n := from; n <= to; n++ {
		list = append(list, n)
	}
	for i := range list {
		j := c.below(i + 1)
		list[i], list[j] = list[j], list[i]
	}
	return list
}

// seens is right ones: of nothing, of few numbers and of many, low, about the edges and up to the greatest.
func seens() []api.Seen {
	return []api.Seen{{}, {Top: 1, Bits: 1}, {Top: 2, Bits: 3}, {Top: 5, Bits: 0b10101}, {Top: 63, Bits: all >> 1}, {Top: 64, Bits: all}, {Top: 65, Bits: 1<<63 | 1}, {Top: 66, Bits: all - 2},
		{Top: 100, Bits: 1}, {Top: 1000, Bits: 0x5555555555555555}, {Top: 1<<32 + 7, Bits: 0xf00000000000000f}, {Top: greatest - 64, Bits: all}, {Top: greatest, Bits: 1<<62 | 1}, {Top: greatest, Bits: all}}
}

// about is datagrams' numbers at all edges about the greatest that was let in.
func about(top int) []int {
	list := []int{}
	for _, n := range []int{1, 2, greatest, top - 1000, top - 66, top - 65, top - 64, top - 63, top - 62, top - 32, top - 3, top - 2, top - 1, top,
		top + 1, top + 2, top + 62, top + 63, top + 64, top + 65, top + 1000, top + 1<<32, top + 1<<32 + 5, top + 1<<61} {
		if n >= 1 && n <= greatest && !slices.Contains(list, n) {
			list = append(list, n)
		}
	}
	return list
}

// peers is nobody, and such whose number is far below a datagram's, right below, at, right above and far above it.
func peers(n int) []api.Peer {
	return []api.Peer{{}, {Addr: "x"}, {Addr: "x", Seq: n - 1}, {Addr: "", Seq: n - 1}, {Addr: "x", Seq: n}, {Addr: "", Seq: n}, {Addr: "x", Seq: n + 1}, {Addr: "", Seq: n + 1},
		{Addr: "x", Seq: 1}, {Addr: "x", Seq: greatest}, {Addr: "x", Seq: math.MaxInt}, {Addr: "x", Seq: -1}, {Addr: "x", Seq: -n}, {Addr: "x", Seq: math.MinInt}}
}
