package roam_test

import (
	"bytes"
	"testing"

	"shutter/api"
	"shutter/roam"
)

// roomy is a list with room behind it, and all of it.
func roomy(list []byte) (short, whole []byte) {
	whole = append(bytes.Clone(list), some(600, 99)...)
	return whole[:len(list)], whole
}

// spoil writes into a list, and into the room behind it.
func spoil(list []byte) {
	list = list[:cap(list)]
	for i := range list {
		list[i] ^= 0x5c
	}
}

// apart tells whether no two lists share any memory, the room behind them among it.
func apart(lists [][]byte) bool {
	seen := map[*byte]bool{}
	for _, l := range lists {
		l = l[:cap(l)]
		for i := range l {
			if seen[&l[i]] {
				return false
			}
			seen[&l[i]] = true
		}
	}
	return true
}

// kinds is datagrams to a gate of direction 0 with the Seen of held: one for each sort of answer.
func kinds(key, body []byte) [][]byte {
	right := mail(key, 0, 6, body)
	return [][]byte{right, mail(key, 0, 3, body), mail(key, 0, 5, body), forge(right), mail(key, 1, 6, body), right[:20], mail(key, 0, 6, some(500, 1))}
}

// held is a gate to which 5 and 4 came.
func held(key []byte) roam.Gate {
	return roam.Gate{Key: key, Seen: api.Seen{Top: 5, Bits: 3}, Peer: api.Peer{Addr: "x", Seq: 5}}
}

// P21.3: the gate, its key and the datagram stay, the room behind them among it, and what is answered shares no memory with them or with other answers: beside each error, too.
func TestLeavesWhatIsHandedIn(t *testing.T) {
	for _, secret := range secrets() {
		for _, length := range []int{0, 1, 16, 26, 100, 486} {
			for i, datagram := range kinds(secret, some(length, 1)) {
				key, wholeKey := roomy(secret)
				b, wholeBytes := roomy(datagram)
				wasKey, wasBytes := bytes.Clone(wholeKey), bytes.Clone(wholeBytes)
				g := held(key)
				answers := [][]byte{wholeKey, wholeBytes}
				for range 3 {
					then, body, _ := g.Come("y", b)
					answers = append(answers, then.Key, body)
				}
				if !bytes.Equal(wholeKey, wasKey) || !bytes.Equal(wholeBytes, wasBytes) || !same(g, held(secret)) {
					t.Fatalf("a key of %d bytes, a body of %d, %d: not as they were", len(key), length, i)
				}
				if &g.Key[:1][0] != &wholeKey[0] {
					t.Fatalf("a key of %d bytes, a body of %d, %d: another key", len(key), length, i)
				}
				if !apart(answers) {
					t.Fatalf("a key of %d bytes, a body of %d, %d: some in one memory", len(key), length, i)
				}
			}
		}
	}
}

// P21.3: what becomes of the key and the datagram later isn't seen in the answers, nor what becomes of a body in the gates.
func TestNothingIsKept(t *testing.T) {
	for _, secret := range secrets() {
		for _, length := range []int{0, 1, 100, 486} {
			for i, datagram := range kinds(secret, some(length, 2)) {
				want := comes(held(secret), "y", datagram)
				key, b := bytes.Clone(secret), bytes.Clone(datagram)
				g := held(key)
				then, body, _ := g.Come("y", b)
				spoil(key)
				spoil(b)
				g.Seen, g.Peer, g.Dir = api.Seen{}, api.Peer{}, 1
				if !same(then, want.gate) || !bytes.Equal(body, want.body) {
					t.Fatalf("%d: %s, %x, not %s, %x", i, told(then), body, told(want.gate), want.body)
				}
				spoil(body)
				if !same(then, want.gate) {
					t.Fatalf("%d: %s, not %s", i, told(then), told(want.gate))
				}
				check(t, then, "z", mail(secret, 0, 7, []byte("on it goes")))
			}
		}
	}
}

// P21.3: what becomes of a body, or of the answered gate's key, isn't seen in what was handed in.
func TestAnswersStandAlone(t *testing.T) {
	for _, secret := range secrets() {
		for i, datagram := range kinds(secret, some(50, 2)) {
			key, b := bytes.Clone(secret), bytes.Clone(datagram)
			g := held(key)
			then, body, _ := g.Come("y", b)
			spoil(body)
			spoil(then.Key)
			if !same(g, held(secret)) || !bytes.Equal(b, datagram) {
				t.Fatalf("%d: %s, %x, not as they were", i, told(g), b)
			}
			check(t, g, "y", datagram)
		}
	}
}

// P21.3: the key and the datagram may lie in one memory.
func TestHandedInTogether(t *testing.T) {
	sealed := mail(some(10, 1), 0, 6, some(30, 2))
	b := append(some(10, 1), sealed...)
	was := bytes.Clone(b)
	check(t, held(b[:10]), "y", b[10:])
	check(t, held(b), "y", b)
	check(t, held(b[10:]), "y", b[10:])
	check(t, held(b[10:20]), "y", b[:40])
	if !bytes.Equal(b, was) {
		t.Errorf("%x, not %x", b, was)
	}
}

// P21.1: the same call answers the same, whatever was called between.
func TestCallsStandAlone(t *testing.T) {
	key := some(20, 4)
	g := held(key)
	for _, other := range secrets() {
		for _, datagram := range kinds(other, some(9, 3)) {
			held(other).Come("elsewhere", datagram)
			g.Come("forger", datagram)
			for _, own := range kinds(key, some(9, 3)) {
				check(t, g, "y", own)
			}
		}
	}
}
