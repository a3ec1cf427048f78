package frame_test

import (
	"bytes"
	"math"
	"testing"

	"shutter/api"
	"shutter/frame"
)

// roomy is a list with room behind it, and all of it.
func roomy(list []byte) (short, whole []byte) {
	whole = append(bytes.Clone(list), some(600, 99)...)
	return whole[:len(list)], whole
}

// spoil writes into a list, and into the room behind it.
func spoil(list []byte) {
	list = list[:cap(list)]
	for i := range list {
		list[i] ^= 0x5c
	}
}

// P19.4: Seal leaves what is handed in, the room behind it among it, beside an answer and beside each error; what it answers is new memory.
func TestSealLeaves(t *testing.T) {
	for _, secret := range secrets() {
		key, wholeKey := roomy(secret)
		for _, length := range []int{0, 1, 16, 26, 100, 485, 486, 487, 600} {
			body, wholeBody := roomy(some(length, 1))
			wasKey, wasBody := bytes.Clone(wholeKey), bytes.Clone(wholeBody)
			answers := [][]byte{wholeKey, wholeBody}
			for _, seq := range []int{1, greatest, 0, 1} {
				for _, dir := range []int{0, 1, 2} {
					b, _ := frame.Seal(key, api.Frame{Dir: dir, Seq: seq, Body: body})
					answers = append(answers, b)
				}
			}
			if !bytes.Equal(wholeKey, wasKey) || !bytes.Equal(wholeBody, wasBody) {
				t.Fatalf("a key of %d bytes, a body of %d: not as they were", len(key), length)
			}
			if !apart(answers) {
				t.Fatalf("a key of %d bytes, a body of %d: some in one memory", len(key), length)
			}
		}
	}
}

// P19.4: Open leaves what is handed in, too, and the body that it answers is new memory.
func TestOpenLeaves(t *testing.T) {
	for _, secret := range secrets() {
		key, wholeKey := roomy(secret)
		wasKey := bytes.Clone(wholeKey)
		for _, length := range []int{0, 1, 16, 26, 100, 485, 486, 487} {
			for _, cut := range []int{0, 1, 17, length} {
				right := tagged(secret, headed(1, 1, 5, some(length, 1)))
				b, whole := roomy(right[:len(right)-cut])
				was := bytes.Clone(whole)
				answers := [][]byte{wholeKey, whole}
				for _, dir := range []int{1, 0, 2, 1} {
					f, _ := frame.Open(key, dir, b)
					answers = append(answers, f.Body)
				}
				if !bytes.Equal(wholeKey, wasKey) || !bytes.Equal(whole, was) {
					t.Fatalf("a key of %d bytes, %d bytes: not as they were", len(key), len(b))
				}
				if !apart(answers) {
					t.Fatalf("a key of %d bytes, %d bytes: some in one memory", len(key), len(b))
				}
			}
		}
	}
}

// P19.4: what is handed in isn't kept: what becomes of it later isn't seen in answers, nor what becomes of answers in later ones.
func TestNothingIsKept(t *testing.T) {
	for _, secret := range secrets() {
		for _, length := range []int{0, 1, 100, 486} {
			key, body := bytes.Clone(secret), some(length, 2)
			f := api.Frame{Dir: 1, Seq: 6, Body: body}
			want := tagged(secret, headed(1, 1, 6, body))
			first, err := frame.Seal(key, f)
			checkError(t, "the first", err, 0)
			opened, err := frame.Open(key, 1, first)
			checkError(t, "the first one opened", err, 0)
			spoil(body)
			spoil(key)
			if !bytes.Equal(first, want) {
				t.Fatalf("%x, not %x", first, want)
			}
			spoil(first)
			if !same(opened, api.Frame{Dir: 1, Seq: 6, Body: some(length, 2)}) {
				t.Fatalf("%v: not as it was", opened)
			}
			spoil(opened.Body)
			checkSeal(t, secret, api.Frame{Dir: 1, Seq: 6, Body: some(length, 2)})
			checkOpened(t, secret, 1, want, api.Frame{Dir: 1, Seq: 6, Body: some(length, 2)}, 0)
		}
	}
}

// P19.4: the key, the body and the bytes may lie in one memory.
func TestHandedInTogether(t *testing.T) {
	all := some(64, 3)
	was := bytes.Clone(all)
	checkSeal(t, all, api.Frame{Seq: 1, Body: all})
	checkSeal(t, all[:40], api.Frame{Seq: 1, Body: all[20:]})
	sealed := tagged(all[:10], headed(1, 0, 1, all))
	checkOpen(t, sealed, 0, sealed)
	checkOpen(t, sealed[:26], 0, sealed)
	if !bytes.Equal(all, was) {
		t.Errorf("%x, not %x", all, was)
	}
}

// P19.1, P19.2: the same call answers the same, whatever was called between.
func TestCallsStandAlone(t *testing.T) {
	key := some(20, 4)
	right := tagged(key, headed(1, 0, 9, []byte("body")))
	for _, other := range secrets() {
		frame.Seal(other, api.Frame{Dir: 1, Seq: 9, Body: []byte("other")})
		frame.Open(other, 1, tagged(other, headed(1, 1, 9, []byte("other"))))
		frame.Open(other, 0, right)
		for range 2 {
			checkSeal(t, key, api.Frame{Seq: 9, Body: []byte("body")})
			checkOpened(t, key, 0, right, api.Frame{Seq: 9, Body: []byte("body")}, 0)
		}
	}
}

// P1: no call panics at numbers, keys, bodies and bytes of all kinds.
func TestEachCallEnds(t *testing.T) {
	seqs := append([]int{1, 2, greatest}, noNumbers...)
	asked := append([]int{0, 1, math.MaxInt32, math.MinInt32}, noDirs...)
	bodies := [][]byte{nil, {}, {0}, some(25, 1), some(26, 1), some(486, 1), some(487, 1), some(512, 1), some(513, 1), some(70000, 1)}
	for _, key := range few() {
		for _, dir := range asked {
			for _, seq := range seqs {
				for _, body := range bodies {
					checkSeal(t, key, api.Frame{Dir: dir, Seq: seq, Body: body})
				}
			}
			for _, body := range bodies {
				checkOpen(t, key, dir, body)
				checkOpen(t, body, dir, key)
				checkOpen(t, body, dir, body)
			}
		}
	}
	frame.Seal(make([]byte, 1<<20), api.Frame{Seq: 1, Body: make([]byte, 1<<24)})
	frame.Open(make([]byte, 1<<20), 0, make([]byte, 1<<24))
}

// P1: bytes of no rule, of all lengths, with a right tag and without one.
func TestBytesOfNoRule(t *testing.T) {
	state := uint32(1)
	next := func(below int) int {
		state = state*1664525 + 1013904223
		return int(state>>8) % below
	}
	for range 20000 {
		b := make([]byte, next(80))
		for i := range b {
			b[i] = byte(next(256))
		}
		if len(b) > 2 && next(2) == 0 {
			b[0], b[1], b[2] = 1, byte(next(3)), b[2]>>next(8)
		}
		key := b[:next(len(b)+1)]
		checkOpen(t, key, next(3), b)
		checkOpen(t, key, next(3), tagged(key, b))
	}
}
