package piece_test

import (
	"bytes"
	"testing"

	"shutter/api"
	"shutter/piece"
)

// packs is packs of each sort, no two of them alike; some of them may not be.
func packs() []api.Pack {
	list := []api.Pack{{}, {Last: true}, {Data: []byte{0}}, {Data: []byte{1}}}
	for _, n := range []int{1, 2, 255, 256, 1 << 24, greatest} {
		list = append(list, api.Pack{Ack: n}, api.Pack{Num: n}, api.Pack{Ack: n, Num: n}, api.Pack{Num: n, Last: true})
		for _, length := range []int{1, 2, 63, 64, 65} {
			list = append(list, api.Pack{Num: n, Last: true, Data: some(length, 1)}, api.Pack{Num: n, Data: some(length, 1)}, api.Pack{Ack: n, Num: n, Last: true, Data: some(length, 2)})
		}
	}
	for _, n := range noNumbers {
		list = append(list, api.Pack{Ack: n}, api.Pack{Num: n}, api.Pack{Ack: n, Num: n, Last: true, Data: []byte{5}})
	}
	return list
}

// P22.2: each pack is like itself and like one in other memory, and like no other one, on either side.
func TestSameOfAll(t *testing.T) {
	list := packs()
	others := copied(list)
	for i, a := range list {
		for j, b := range others {
			if piece.Same(a, b) != (i == j) || piece.Same(b, a) != (i == j) {
				t.Fatalf("%s and %s: %v", told(a), told(b), i != j)
			}
		}
		if !piece.Same(a, a) {
			t.Fatalf("%s isn't like itself", told(a))
		}
	}
}

// P22.2: nil Data and no Data are one.
func TestSameOfNoData(t *testing.T) {
	for _, p := range []api.Pack{{}, {Ack: 5}, {Num: 5}, {Ack: 1, Num: 2, Last: true}} {
		for _, none := range [][]byte{nil, {}, some(5, 1)[:0], make([]byte, 0, 64)} {
			q := p
			q.Data = none
			if !piece.Same(p, q) || !piece.Same(q, p) || !piece.Same(q, q) {
				t.Errorf("%s and one with no Data", told(p))
			}
			q.Data = []byte{0}
			if piece.Same(p, q) || piece.Same(q, p) {
				t.Errorf("%s and %s are alike", told(p), told(q))
			}
		}
	}
}

// differ tells it, if two packs are alike.
func differ(t *testing.T, a, b api.Pack) {
	t.Helper()
	if piece.Same(a, b) || piece.Same(b, a) {
		t.Fatalf("%s and %s are alike", told(a), told(b))
	}
}

// P22.2: packs that differ in one field alone.
func TestSameOfOneField(t *testing.T) {
	for _, length := range []int{0, 1, 64} {
		for _, n := range append(numbers, 0) {
			p := api.Pack{Ack: n, Num: n, Last: n%2 == 0, Data: some(length, n)}
			for _, m := range []int{n + 1, n - 1, -n - 1, n + 1<<32, n + 1<<31, n ^ 1<<8, n ^ 1<<16, n ^ 1<<24} {
				q := p
				q.Ack = m
				differ(t, p, q)
				q = p
				q.Num = m
				differ(t, p, q)
				q.Ack = m
				differ(t, p, q)
			}
			q := p
			q.Last = !p.Last
			differ(t, p, q)
			q = p
			q.Data = append(bytes.Clone(p.Data), 0)
			differ(t, p, q)
		}
	}
}

// P22.2: packs that differ in one bit of one byte of Data, in its order, or in its length alone.
func TestSameOfOneByte(t *testing.T) {
	for _, length := range []int{1, 2, 63, 64, 65, 1000} {
		data := some(length, 7)
		p := api.Pack{Ack: 3, Num: 4, Last: true, Data: data}
		for i := range data {
			for bit := range 8 {
				q := p
				q.Data = bytes.Clone(data)
				q.Data[i] ^= 1 << bit
				differ(t, p, q)
			}
			q := p
			q.Data = data[:i]
			differ(t, p, q)
			if i > 0 {
				q.Data = data[i:]
				differ(t, p, q)
			}
			if i > 0 && data[i] != data[i-1] {
				q.Data = bytes.Clone(data)
				q.Data[i], q.Data[i-1] = q.Data[i-1], q.Data[i]
				differ(t, p, q)
			}
		}
	}
}
