package piece_test

import (
	"bytes"
	"testing"

	"shutter/api"
	"shutter/piece"
)

// lengths is of messages, and of Data and bytes, at all edges, right and wrong ones.
var lengths = []int{0, 1, 2, 8, 9, 10, 63, 64, 65, 72, 73, 74, 127, 128, 129, 500, mostMessage - 1, mostMessage, mostMessage + 1, 9000}

// roomy is a list with room behind it, and all of it.
func roomy(list []byte) (short, whole []byte) {
	whole = append(bytes.Clone(list), some(600, 99)...)
	return whole[:len(list)], whole
}

// spoil writes into a list, and into the room behind it.
func spoil(list []byte) {
	list = list[:cap(list)]
	for i := range list {
		list[i] ^= 0x5c
	}
}

// spoilPacks changes each pack of a list, the room behind it among it, and what they hold.
func spoilPacks(list []api.Pack) {
	list = list[:cap(list)]
	for i := range list {
		spoil(list[i].Data)
		list[i].Ack, list[i].Num, list[i].Last = 77, -1, !list[i].Last
		list[i].Data = nil
	}
}

// apart tells whether no two lists share any memory, the room behind them among it.
func apart(lists [][]byte) bool {
	seen := map[*byte]bool{}
	for _, l := range lists {
		l = l[:cap(l)]
		for i := range l {
			if seen[&l[i]] {
				return false
			}
			seen[&l[i]] = true
		}
	}
	return true
}

// P22.4: Cut leaves the message, the room behind it among it; no piece shares memory with it, with another piece, or with another answer.
func TestCutLeaves(t *testing.T) {
	for _, length := range lengths {
		msg, whole := roomy(some(length, 1))
		was := bytes.Clone(whole)
		first, _ := piece.Cut(msg)
		second, _ := piece.Cut(msg)
		if !bytes.Equal(whole, was) {
			t.Fatalf("%d bytes: not as they were", length)
		}
		parts := [][]byte{whole}
		for _, p := range append(copiedList(first), second...) {
			parts = append(parts, p.Data)
		}
		if !apart(parts) {
			t.Fatalf("%d bytes: some in one memory", length)
		}
		spoilPacks(second)
		if want, _ := pieces(was[:length]); !allAlike(first, want) {
			t.Fatalf("%d bytes: other pieces", length)
		}
	}
}

// copiedList is the same packs in another list; what they hold is the same memory.
func copiedList(list []api.Pack) []api.Pack { return append([]api.Pack(nil), list...) }

// P22.4: what becomes of a message later isn't seen in its pieces, nor what becomes of one piece in the message and in the others.
func TestPiecesStandAlone(t *testing.T) {
	for _, length := range lengths {
		msg := some(length, 2)
		was := bytes.Clone(msg)
		list, _ := piece.Cut(msg)
		want, _ := pieces(msg)
		spoil(msg)
		if !allAlike(list, want) {
			t.Fatalf("%d bytes: other pieces", length)
		}
		copy(msg, was)
		for i := range list {
			spoil(list[i].Data)
			if !allAlike(list[i+1:], want[i+1:]) || !bytes.Equal(msg, was) {
				t.Fatalf("%d bytes: piece %d changes another one, or the message", length, i)
			}
		}
		checkCut(t, msg)
	}
}

// P22.4: Write leaves the pack, beside an answer and beside each error; its bytes are new memory.
func TestWriteLeaves(t *testing.T) {
	for _, length := range lengths {
		for _, last := range []bool{false, true} {
			for _, num := range []int{0, 1, greatest, -1} {
				data, whole := roomy(some(length, 3))
				was := bytes.Clone(whole)
				p := api.Pack{Ack: 6, Num: num, Last: last, Data: data}
				want, _ := written(p)
				first, _ := piece.Write(p)
				second, _ := piece.Write(p)
				if !bytes.Equal(whole, was) {
					t.Fatalf("%s: not as it was", told(p))
				}
				if !apart([][]byte{whole, first, second}) {
					t.Fatalf("%s: some in one memory", told(p))
				}
				spoil(data)
				spoil(second)
				if !bytes.Equal(first, want) {
					t.Fatalf("%s: %x, not %x", told(p), first, want)
				}
				copy(whole, was)
				spoil(first)
				if !bytes.Equal(whole, was) {
					t.Fatalf("%s: what was answered changes it", told(p))
				}
			}
		}
	}
}

// P22.4: Read leaves the bytes, beside an answer and beside each error; the pack's Data are new memory.
func TestReadLeaves(t *testing.T) {
	for _, length := range lengths {
		for _, ninth := range []byte{0, 1, 2} {
			for _, num := range []uint32{0, 1, greatest, 1 << 31} {
				b, whole := roomy(laid(5, num, ninth, some(length, 4)))
				was := bytes.Clone(whole)
				want, _ := readAs(was[:len(b)])
				first, _ := piece.Read(b)
				second, _ := piece.Read(b)
				if !bytes.Equal(whole, was) {
					t.Fatalf("%s: not as they were", begins(b))
				}
				if !apart([][]byte{whole, first.Data, second.Data}) {
					t.Fatalf("%s: some in one memory", begins(b))
				}
				spoil(whole)
				spoil(second.Data)
				if !alike(first, want) {
					t.Fatalf("%s: %s, not %s", begins(was), told(first), told(want))
				}
				copy(whole, was)
				spoil(first.Data)
				if !bytes.Equal(whole, was) {
					t.Fatalf("%s: what was answered changes them", begins(b))
				}
			}
		}
	}
}

// P22.4: Same leaves both packs.
func TestSameLeaves(t *testing.T) {
	for _, length := range lengths {
		one, wholeOne := roomy(some(length, 5))
		two, wholeTwo := roomy(some(length, 5))
		wasOne, wasTwo := bytes.Clone(wholeOne), bytes.Clone(wholeTwo)
		if !piece.Same(api.Pack{Num: 1, Data: one}, api.Pack{Num: 1, Data: two}) {
			t.Fatalf("%d bytes: not alike", length)
		}
		if !bytes.Equal(wholeOne, wasOne) || !bytes.Equal(wholeTwo, wasTwo) {
			t.Fatalf("%d bytes: not as they were", length)
		}
	}
}

// P22.4: what was answered once is neither seen nor changed by later calls.
func TestCallsStandAlone(t *testing.T) {
	msg := some(200, 6)
	list, _ := piece.Cut(msg)
	kept := copied(list)
	b, _ := piece.Write(list[0])
	keptBytes := bytes.Clone(b)
	p, _ := piece.Read(b)
	keptPack := copied([]api.Pack{p})[0]
	for _, length := range lengths {
		piece.Cut(some(length, 7))
		piece.Write(api.Pack{Ack: 1, Num: 2, Last: true, Data: some(length, 8)})
		piece.Read(laid(1, 2, 1, some(length, 9)))
		if !allAlike(list, kept) || !bytes.Equal(b, keptBytes) || !alike(p, keptPack) {
			t.Fatalf("%d bytes: another answer changed", length)
		}
		checkCut(t, msg)
		checkWrite(t, list[0])
		checkRead(t, b)
	}
}
