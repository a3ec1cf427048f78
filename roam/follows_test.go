package roam_test

import (
	"bytes"
	"strconv"
	"testing"

	"shutter/api"
	"shutter/roam"
)

// run is a gate to which datagrams come, and all that was let in: who sent each number, and which the greatest is.
type run struct {
	t    *testing.T
	gate roam.Gate
	who  map[int]string
	top  int
}

// newRun is one to which nothing came.
func newRun(t *testing.T, key []byte, dir int) *run {
	return &run{t: t, gate: roam.Gate{Key: key, Dir: dir}, who: map[int]string{}}
}

// bodyOf is the body of a number's datagram.
func bodyOf(n int) []byte { return []byte("number " + strconv.Itoa(n)) }

// come lets the datagram of a number come: it is let in once, and the peer is who sent the greatest that was.
func (r *run) come(from string, n int) {
	r.t.Helper()
	then, body, err := r.gate.Come(from, mail(r.gate.Key, r.gate.Dir, n, bodyOf(n)))
	if _, came := r.who[n]; came || n <= r.top-width {
		r.refused(n, then, body, err, api.ErrOld)
		return
	}
	if err != nil || !bytes.Equal(body, bodyOf(n)) {
		r.t.Fatalf("%s, %d: %q, %v", told(r.gate), n, body, err)
	}
	r.who[n] = from
	r.top = max(r.top, n)
	r.gate = then
	r.checkGate()
}

// forged lets bytes come that are no datagram of this gate's: they change nothing.
func (r *run) forged(from string, b []byte, code api.Errno) {
	r.t.Helper()
	then, body, err := r.gate.Come(from, b)
	r.refused(-1, then, body, err, code)
}

// refused holds an answer against an error, and the gate as it was.
func (r *run) refused(n int, then roam.Gate, body []byte, err error, code api.Errno) {
	r.t.Helper()
	if !isError(err, code) || body != nil || !same(then, r.gate) {
		r.t.Fatalf("%s, %d: %s, %q, %v, not %v", told(r.gate), n, told(then), body, err, code)
	}
}

// checkGate holds the gate against all that was let in.
func (r *run) checkGate() {
	r.t.Helper()
	want := roam.Gate{Key: r.gate.Key, Dir: r.gate.Dir}
	if r.top > 0 {
		want.Peer = api.Peer{Addr: r.who[r.top], Seq: r.top}
		want.Seen.Top = r.top
	}
	bit := uint64(1)
	for k := range width {
		if _, came := r.who[r.top-k]; came {
			want.Seen.Bits += bit
		}
		bit *= 2
	}
	if !same(r.gate, want) || r.gate.Known() != (r.top > 0) {
		r.t.Fatalf("%s, not %s", told(r.gate), told(want))
	}
}

// P21.2: of six numbers five, in every order there is, each from an address of its own.
func TestFewInAllOrders(t *testing.T) {
	froms := []string{"a", "b", "", "a", "c"}
	for _, few := range [][]int{{1, 2, 64, 65, 66, 129}, {5, 3, 4, 68, 1 << 40, greatest}} {
		for order := range 6 * 6 * 6 * 6 * 6 {
			r := newRun(t, []byte("key"), order%2)
			for _, from := range froms {
				r.come(from, few[order%6])
				order /= 6
			}
		}
	}
}

// P21.2: rising and falling ones, each of them again from another address.
func TestRisingAndFalling(t *testing.T) {
	for _, gap := range []int{1, 2, 31, 63, 64, 65, 1 << 32} {
		up, down := newRun(t, some(64, 1), 0), newRun(t, some(65, 1), 1)
		for i := 1; i <= 140; i++ {
			up.come("up "+strconv.Itoa(i%3), i*gap)
			up.come("again", i*gap)
			up.come("late", max(1, i*gap-i%70))
			down.come("down "+strconv.Itoa(i%3), (141-i)*gap)
			down.come("again", (141-i)*gap)
		}
		if want := (api.Peer{Addr: "down 1", Seq: 140 * gap}); down.gate.Peer != want {
			t.Errorf("the peer %v, not %v", down.gate.Peer, want)
		}
	}
}

// P21.2: in orders of no rule, with forged ones and second ones among them.
func TestShuffled(t *testing.T) {
	c := chance(1)
	for _, base := range []int{0, 1<<32 - 100, greatest - 200} {
		for _, late := range []int{1, 3, 40, 63, 64, 65, 200} {
			r := newRun(t, some(late, 1), late%2)
			for at := 1; at <= 200; at += late {
				part := c.shuffled(base+at, base+min(200, at+late-1))
				for i, n := range part {
					r.come("from "+strconv.Itoa(c.below(4)), n)
					r.come("again", part[c.below(i+1)])
					r.falsehood(&c, base+1+c.below(220))
				}
			}
		}
	}
}

// falsehood lets come what nobody sealed for this gate, whatever its number.
func (r *run) falsehood(c *chance, n int) {
	r.t.Helper()
	key, dir := r.gate.Key, r.gate.Dir
	right := mail(key, dir, n, bodyOf(n))
	switch c.below(6) {
	case 0:
		right[c.below(len(right))] ^= 1 << c.below(8)
		r.forged("forger", right, api.ErrTag)
	case 1:
		r.forged("forger", mail(some(30, 9), dir, n, bodyOf(n)), api.ErrTag)
	case 2:
		r.forged("forger", mail(key, 1-dir, n, bodyOf(n)), api.ErrSide)
	case 3:
		r.forged("forger", right[:c.below(overhead)], api.ErrCut)
	case 4:
		r.forged("forger", append(right, make([]byte, most)...), api.ErrLong)
	case 5:
		r.forged("forger", right[:len(right)-1], api.ErrTag)
	}
}

// P21.2: the numbers are no rule's: near, far, late, seen, at gates of either direction.
func TestNumbersOfNoRule(t *testing.T) {
	c := chance(2)
	for i := range 60 {
		r := newRun(t, some(i, 1), i%2)
		for range 120 {
			n := r.top + 1 + c.below(70)
			switch c.below(4) {
			case 0:
				n = 1 + c.below(greatest)>>c.below(62)
			case 1, 2:
				n = r.top - c.below(70)
			}
			r.come("from "+strconv.Itoa(c.below(5)), min(max(n, 1), greatest))
		}
	}
}

// P21.2: all that isn't let in might as well not have come: gates and bodies are the same ones without it.
func TestAsIfItHadNotCome(t *testing.T) {
	c := chance(3)
	for range 30 {
		with, without := newRun(t, some(20, 1), 0), newRun(t, some(20, 1), 0)
		for range 60 {
			n := max(1, with.top+5-c.below(40))
			with.falsehood(&c, n)
			_, came := with.who[n]
			with.come("from "+strconv.Itoa(n%3), n)
			if !came {
				without.come("from "+strconv.Itoa(n%3), n)
			}
			with.come("again", n)
			if !same(with.gate, without.gate) {
				t.Fatalf("%s, not %s", told(with.gate), told(without.gate))
			}
		}
	}
}

// P21.2: a gate is a value: two that go on from one gate say nothing about each other.
func TestGatesPart(t *testing.T) {
	key := some(20, 1)
	g := roam.Gate{Key: key}
	g = check(t, g, "x", mail(key, 0, 5, nil))
	one := check(t, g, "y", mail(key, 0, 6, nil))
	two := check(t, g, "z", mail(key, 0, 80, nil))
	if one.Peer != (api.Peer{Addr: "y", Seq: 6}) || two.Peer != (api.Peer{Addr: "z", Seq: 80}) || g.Peer != (api.Peer{Addr: "x", Seq: 5}) {
		t.Errorf("%s, %s, %s", told(g), told(one), told(two))
	}
	checkRefused(t, one, "z", mail(key, 0, 6, nil), api.ErrOld)
	check(t, one, "z", mail(key, 0, 7, nil))
	checkRefused(t, two, "z", mail(key, 0, 6, nil), api.ErrOld)
	if (api.Seen{Top: 5, Bits: 1}) != g.Seen {
		t.Errorf("%s: not as it was", told(g))
	}
}
