package roam_test

import (
	"bytes"
	"math"
	"strings"
	"testing"

	"shutter/api"
	"shutter/frame"
	"shutter/roam"
	"shutter/window"
)

// secret is the key of the datagrams that are written out.
const secret = "a key of the two sides"

// step is a datagram that comes to a gate, and what is answered.
type step struct {
	from  string
	bytes string
	body  string
	code  api.Errno
	seen  api.Seen
	peer  api.Peer
}

// writtenOut is what comes to a gate to the host, one behind the other; chapter 21's example first.
var writtenOut = []step{
	{"x", "01000000000000000003" + "7468726565" + "53020ea3bd82c7d2d34a43ce4d3b71ab", "three", 0, api.Seen{Top: 3, Bits: 1}, api.Peer{Addr: "x", Seq: 3}},
	{"y", "01000000000000000002" + "74776f" + "96f59c071a4c69dcd6dc20e20f8f8aec", "two", 0, api.Seen{Top: 3, Bits: 3}, api.Peer{Addr: "x", Seq: 3}},
	{"y", "01000000000000000003" + "7468726565" + "53020ea3bd82c7d2d34a43ce4d3b71ab", "", api.ErrOld, api.Seen{Top: 3, Bits: 3}, api.Peer{Addr: "x", Seq: 3}},
	{"z", "01000000000000000064" + "00" + "e0260cc2401f1c07d9b846b0e8570290", "", api.ErrTag, api.Seen{Top: 3, Bits: 3}, api.Peer{Addr: "x", Seq: 3}},
	{"z", "01010000000000000003" + "7468726565" + "0ba975e2a36f2791d6c63a80dbc941d3", "", api.ErrSide, api.Seen{Top: 3, Bits: 3}, api.Peer{Addr: "x", Seq: 3}},
	{"z", "010000000000000000" + "ba4c9f97869342a738184ac2aff3e8dc", "", api.ErrCut, api.Seen{Top: 3, Bits: 3}, api.Peer{Addr: "x", Seq: 3}},
	{"z", "01000000000000000064" + "00" + "e0260cc2401f1c07d9b846b0e8570291", "\x00", 0, api.Seen{Top: 100, Bits: 1}, api.Peer{Addr: "z", Seq: 100}},
	{"x", "01000000000000000024" + "78" + "c17aaeec93dc4502bf9a9e5e3c877739", "", api.ErrOld, api.Seen{Top: 100, Bits: 1}, api.Peer{Addr: "z", Seq: 100}},
	{"x", "01000000000000000025" + "79" + "18523854ea5e55eb3a75abdd62ef7f80", "y", 0, api.Seen{Top: 100, Bits: 1<<63 | 1}, api.Peer{Addr: "z", Seq: 100}},
	{"x", "01000000000000000001" + "ba4c9f97869342a738184ac2aff3e8dc", "", api.ErrOld, api.Seen{Top: 100, Bits: 1<<63 | 1}, api.Peer{Addr: "z", Seq: 100}},
	{"", "01004000000000000000" + "ff00" + "e009f59079750a497650f65732aec8ea", "\xff\x00", 0, api.Seen{Top: 1 << 62, Bits: 1}, api.Peer{Seq: 1 << 62}},
	{"x", "01004000000000000000" + "ff00" + "e009f59079750a497650f65732aec8ea", "", api.ErrOld, api.Seen{Top: 1 << 62, Bits: 1}, api.Peer{Seq: 1 << 62}},
}

// P21.1: datagrams and answers that are written out.
func TestWrittenOut(t *testing.T) {
	g := roam.Gate{Key: []byte(secret)}
	for _, s := range writtenOut {
		want := roam.Gate{Key: []byte(secret), Seen: s.seen, Peer: s.peer}
		g = checkAnswer(t, g, s.from, unhex(t, s.bytes), answer{want, []byte(s.body), s.code})
	}
	toClient := roam.Gate{Key: []byte(strings.Repeat("k", 65)), Dir: 1}
	then := toClient
	then.Seen, then.Peer = api.Seen{Top: 7, Bits: 1}, api.Peer{Addr: "host", Seq: 7}
	checkAnswer(t, toClient, "host", unhex(t, "01010000000000000007"+"736576656e"+"1912d4366f5a4270b82ff95ee590384e"), answer{then, []byte("seven"), 0})
	then = roam.Gate{Seen: api.Seen{Top: 5, Bits: 1}, Peer: api.Peer{Addr: "client", Seq: 5}}
	checkAnswer(t, roam.Gate{}, "client", unhex(t, "01000000000000000005"+"66697665"+"2d55ab5a33ef2a35c7f3518f319312c7"), answer{then, []byte("five"), 0})
}

// forge is a datagram with its last bit turned.
func forge(b []byte) []byte {
	b = bytes.Clone(b)
	b[len(b)-1] ^= 1
	return b
}

// P21.1: gates with every sort of Seen, of both directions, with a key and without one, with every sort of peer; datagrams of all numbers, right ones, forged ones and those of the other direction.
func TestGatesByModel(t *testing.T) {
	for _, key := range [][]byte{nil, some(20, 2)} {
		for dir := range 2 {
			for _, seen := range seens() {
				for _, n := range about(seen.Top) {
					right, other := mail(key, dir, n, some(n&15, n&7)), mail(key, 1-dir, n, nil)
					forged := forge(right)
					for _, peer := range peers(n) {
						g := roam.Gate{Key: key, Dir: dir, Seen: seen, Peer: peer}
						for _, from := range []string{"x", "y", ""} {
							check(t, g, from, right)
						}
						checkRefused(t, g, "y", forged, api.ErrTag)
						checkRefused(t, g, "y", other, api.ErrSide)
					}
				}
			}
		}
	}
}

// P21.1: with keys of each sort, and bodies of every length.
func TestKeysAndBodies(t *testing.T) {
	for i, key := range secrets() {
		g := roam.Gate{Key: key, Dir: i % 2, Seen: api.Seen{Top: 9, Bits: 0b101}, Peer: api.Peer{Addr: "x", Seq: 9}}
		for n := 1; n <= 12; n++ {
			check(t, g, "y", mail(key, i%2, n, some(n, i)))
		}
		for length := i; length <= mostBody; length += 7 {
			body := some(length, i)
			then := g
			then.Seen, then.Peer = api.Seen{Top: 10, Bits: 0b1011}, api.Peer{Addr: "y", Seq: 10}
			checkAnswer(t, g, "y", mail(key, i%2, 10, body), answer{then, body, 0})
		}
	}
	zeros := make([]byte, mostBody)
	then := roam.Gate{Seen: api.Seen{Top: 1, Bits: 1}, Peer: api.Peer{Addr: "z", Seq: 1}}
	checkAnswer(t, roam.Gate{}, "z", mail(nil, 0, 1, zeros), answer{then, zeros, 0})
}

// P21.1: what frame seals comes, and what is seen then is window's.
func TestLayersBelow(t *testing.T) {
	key := some(33, 1)
	for _, seen := range seens() {
		for _, n := range about(seen.Top) {
			b, err := frame.Seal(key, api.Frame{Dir: 1, Seq: n, Body: []byte("body")})
			if err != nil {
				t.Fatal(err)
			}
			g := roam.Gate{Key: key, Dir: 1, Seen: seen}
			then, err := window.Let(seen, n)
			if err != nil {
				checkRefused(t, g, "x", b, api.ErrOld)
				continue
			}
			want := roam.Gate{Key: key, Dir: 1, Seen: then, Peer: api.Peer{Addr: "x", Seq: n}}
			checkAnswer(t, g, "x", b, answer{want, []byte("body"), 0})
		}
	}
}

// P21.1: numbers 63, 64 and 65 below the greatest, that one, and those above, with no other one let in and with all.
func TestWindowEdges(t *testing.T) {
	key := some(20, 1)
	for _, top := range []int{66, 100, 1 << 40, greatest} {
		none := roam.Gate{Key: key, Seen: api.Seen{Top: top, Bits: 1}, Peer: api.Peer{Addr: "x", Seq: top}}
		every := roam.Gate{Key: key, Seen: api.Seen{Top: top, Bits: all}, Peer: api.Peer{Addr: "x", Seq: top}}
		for back := 1; back < width; back++ {
			then := none
			then.Seen.Bits |= 1 << back
			checkAnswer(t, none, "y", mail(key, 0, top-back, nil), answer{gate: then})
			checkRefused(t, every, "y", mail(key, 0, top-back, nil), api.ErrOld)
			checkRefused(t, then, "y", mail(key, 0, top-back, nil), api.ErrOld)
		}
		for _, g := range []roam.Gate{none, every} {
			checkRefused(t, g, "y", mail(key, 0, top, nil), api.ErrOld)
			checkRefused(t, g, "y", mail(key, 0, top-64, nil), api.ErrOld)
			checkRefused(t, g, "y", mail(key, 0, top-65, nil), api.ErrOld)
			checkRefused(t, g, "y", mail(key, 0, 1, nil), api.ErrOld)
		}
		for _, up := range []int{1, 2, 63, 64, 65, 1 << 20, greatest - top} {
			if up < 1 || up > greatest-top {
				continue
			}
			then := roam.Gate{Key: key, Seen: api.Seen{Top: top + up, Bits: 1}, Peer: api.Peer{Addr: "y", Seq: top + up}}
			if up < width {
				then.Seen.Bits |= 1 << up
			}
			checkAnswer(t, none, "y", mail(key, 0, top+up, nil), answer{gate: then})
		}
	}
}

// P21.1: the peer is the datagram's address, if its number is above the peer's; not at it, nor below: of new numbers and of late ones, of the same address, another one and none.
func TestPeer(t *testing.T) {
	key := some(20, 1)
	for _, seen := range []api.Seen{{}, {Top: 40, Bits: 1}, {Top: 49, Bits: 3}, {Top: 60, Bits: 5}, {Top: 113, Bits: 1}} {
		for seq := 45; seq <= 55; seq++ {
			for _, addr := range []string{"x", "", "a longer one"} {
				g := roam.Gate{Key: key, Seen: seen, Peer: api.Peer{Addr: addr, Seq: seq}}
				for _, from := range []string{"x", "y", "", "\xff\x00", strings.Repeat("far", 1000)} {
					then, body, err := g.Come(from, mail(key, 0, 50, []byte{5}))
					if err != nil || !bytes.Equal(body, []byte{5}) {
						t.Fatalf("%s: %x, %v", told(g), body, err)
					}
					want := api.Peer{Addr: from, Seq: 50}
					if seq >= 50 {
						want = api.Peer{Addr: addr, Seq: seq}
					}
					if then.Peer != want {
						t.Fatalf("%s, from %.20q: the gate %s, not the peer %v", told(g), from, told(then), want)
					}
				}
			}
		}
	}
}

// P21.1: Known tells whether the peer's number is above 0, and nothing else counts.
func TestKnown(t *testing.T) {
	numbers := map[int]bool{0: false, 1: true, 2: true, 63: true, 64: true, 1 << 32: true, greatest: true, math.MaxInt: true, -1: false, -2: false, -64: false, -1 << 32: false, -greatest: false, math.MinInt: false}
	for seq, want := range numbers {
		for _, addr := range []string{"", "x", "\x00"} {
			for _, seen := range append(seens(), wrongs()...) {
				for dir := -1; dir <= 2; dir++ {
					g := roam.Gate{Key: some(dir+1, 1), Dir: dir, Seen: seen, Peer: api.Peer{Addr: addr, Seq: seq}}
					if g.Known() != want {
						t.Fatalf("%s: Known is %v", told(g), !want)
					}
				}
			}
		}
	}
	if (roam.Gate{}).Known() {
		t.Error("a gate to which nothing came: Known")
	}
}

// P21.1: a gate of a direction that is none lets nothing in: ErrSide, but where the datagram's byte is the same number: ErrArg there.
func TestNoDirection(t *testing.T) {
	key := some(20, 1)
	list := []int{-1, -2, -255, -256, 2, 3, 127, 128, 255, 256, 257, 512, 1 << 32, 1<<32 + 1, math.MaxInt, math.MinInt, math.MinInt + 1}
	for _, dir := range list {
		for _, seen := range seens() {
			g := roam.Gate{Key: key, Dir: dir, Seen: seen, Peer: api.Peer{Addr: "x", Seq: 1}}
			for _, n := range about(seen.Top) {
				checkRefused(t, g, "y", mail(key, 0, n, nil), api.ErrSide)
				checkRefused(t, g, "y", mail(key, 1, n, nil), api.ErrSide)
				code := api.ErrSide
				if dir >= 2 && dir <= 255 {
					code = api.ErrArg
				}
				checkRefused(t, g, "y", mail(key, dir, n, nil), code)
			}
		}
	}
}
